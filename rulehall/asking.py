"""Questions: what a kind hangs on, and the facts of the model that an atom may become."""

from rulehall.levels import levels_of, links_of
from rulehall.models import model
from rulehall.ways import matched


def needed(rules, kind):
    levels_of(rules)
    links = links_of(rules)
    found = {kind: True}
    waiting = [kind]
    while waiting:
        above = waiting.pop()
        for below in [link[0] for link in links if link[1] == above]:
            if below not in found:
                found[below] = True
                waiting.append(below)
    return tuple(sorted(found))


def narrowed(rules, facts, kind):
    kinds = needed(rules, kind)
    some = tuple([rule for rule in rules if rule[0][0] in kinds])
    return (some, tuple([fact for fact in facts if fact[0] in kinds]))


def answers(rules, facts, atom):
    pair = narrowed(rules, facts, atom[0])
    return tuple([fact for fact in model(pair[0], pair[1]) if matched({}, atom, fact) is not None])
