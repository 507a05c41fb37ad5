"""Drawn rules and facts, the same in every run."""

import itertools
import random

import reckoning

COUNTS = {"p": 1, "q": 2, "r": 1, "s": 0, "t": 2, "u": 1, "v": 3, "w": 2}
KINDS = sorted(COUNTS)
WORDS = ("a", "b", "c", "d")
VARIABLES = ("A", "B", "B1", "C")


def drawn_atom(source, kind, terms):
    return (kind, tuple(source.choice(terms) for place in range(COUNTS[kind])))


def drawn_yes_atom(source, kind):
    # Mostly differing variables, since else too few facts would do.
    if source.random() < 0.8:
        return (kind, tuple(source.sample(VARIABLES, COUNTS[kind])))
    return drawn_atom(source, kind, VARIABLES + WORDS[:2])


def drawn_rule(source, kind, yes_kinds, no_kinds):
    """A rule of this kind, its yes and no literals of those kinds, and each of its variables in a yes literal."""
    told = [drawn_yes_atom(source, source.choice(yes_kinds)) for turn in range(source.choice((0, 1, 1, 2, 2, 2, 3)))]
    bound = tuple(sorted({term for atom in told for term in atom[1]})) or WORDS
    denied = []
    if no_kinds:
        count = min(source.choice((0, 0, 0, 1, 1, 2)), 4 - len(told))
        denied = [drawn_atom(source, source.choice(no_kinds), bound) for turn in range(count)]
    body = [("yes", atom) for atom in told] + [("no", atom) for atom in denied]
    source.shuffle(body)
    return (drawn_atom(source, kind, bound), tuple(body))


def drawn_rules(source, kinds, with_levels, with_no):
    """Where levels are asked for, no rule's body holds a kind that stands behind its head's."""
    found = []
    for turn in range(max(source.randint(0, 10), source.randint(0, 10))):
        place = source.randrange(len(kinds))
        yes_kinds = kinds[:place + 1] if with_levels and with_no else kinds
        no_kinds = kinds[:place] if with_levels else kinds
        found.append(drawn_rule(source, kinds[place], yes_kinds, no_kinds if with_no else ()))
    return tuple(found)


def drawn_facts(source, kinds=KINDS, most=16):
    return tuple(sorted({drawn_atom(source, source.choice(kinds), WORDS) for turn in range(source.randint(0, most))}))


def drawn_pair(source, with_levels=True, with_no=True):
    kinds = source.sample(KINDS, source.randint(3, 6))
    rules = drawn_rules(source, kinds, with_levels, with_no)
    # Facts of few kinds, and these ones that many bodies ask for, make more follow.
    return (rules, drawn_facts(source, kinds[:3] + KINDS[:1]))


def pairs(seed, count, **wishes):
    source = random.Random(seed)
    return [drawn_pair(source, **wishes) for turn in range(count)]


def base(kinds, words):
    """All facts of these kinds over these words, rising."""
    return sorted((kind, terms) for kind in kinds for terms in itertools.product(words, repeat=COUNTS[kind]))


def drawn_reason(source, rules, facts, length):
    """Lines that may stand in an accepted reason, whether they are of use or not; () where none may."""
    held = reckoning.model(rules, facts)
    steps = [step for step in reckoning.instances(rules, facts) if held.isdisjoint(step[3])]
    lines, told = [], []
    for turn in range(length):
        places = {}
        for number, fact in enumerate(told):
            places.setdefault(fact, []).append(number)
        able = [step for step in steps if all(fact in places for fact in step[2])]
        if facts and (not able or source.random() < 0.3):
            told.append(source.choice(facts))
            lines.append(("given", told[-1]))
        elif able:
            fresh = [step for step in able if step[1] not in places]
            number, head, yes_facts, denied = source.choice(fresh if fresh and source.random() < 0.6 else able)
            told.append(head)
            lines.append(("by", number, head, tuple(source.choice(places[fact]) for fact in yes_facts)))
    return tuple(lines)
