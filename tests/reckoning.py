"""A second reckoning of levels, ways, models, ranks and reasons, straight from the words of the document.

It tries every word for every variable and shares no step with the package.
"""

import itertools


def kinds_of(rules):
    found = set()
    for head, body in rules:
        found |= {head[0]} | {atom[0] for mark, atom in body}
    return sorted(found)


def fits(rules, levels):
    """Whether these levels are as the rules ask, be they the least ones or not."""
    for head, body in rules:
        for mark, atom in body:
            if levels[head[0]] < levels[atom[0]] + (mark == "no"):
                return False
    return True


def levels_of(rules):
    """The least levels out of all that could be tried, or None. Slow: for few kinds."""
    kinds = kinds_of(rules)
    fitting = []
    for numbers in itertools.product(range(max(1, len(kinds))), repeat=len(kinds)):
        levels = dict(zip(kinds, numbers))
        if fits(rules, levels):
            fitting.append(levels)
    if not fitting:
        return None
    return {kind: min(levels[kind] for levels in fitting) for kind in kinds}


def raised_levels(rules):
    """The same, by raising what is too low until a level is greater than there are kinds. For many kinds."""
    levels = {kind: 0 for kind in kinds_of(rules)}
    while not fits(rules, levels):
        for head, body in rules:
            asked = [levels[atom[0]] + (mark == "no") for mark, atom in body]
            levels[head[0]] = max([levels[head[0]]] + asked)
        if max(levels.values()) > len(levels):
            return None
    return levels


def is_ring(rules, ring):
    if type(ring) is not tuple or not ring:
        return False
    marks = []
    for kind, above in zip(ring, ring[1:] + ring[:1]):
        here = {mark for head, body in rules for mark, atom in body if head[0] == above and atom[0] == kind}
        marks.append(here)
    return all(marks) and any("no" in here for here in marks)


def words_in(rules, facts):
    atoms = list(facts)
    for head, body in rules:
        atoms += [head] + [atom for mark, atom in body]
    return sorted({term for kind, terms in atoms for term in terms if term.islower()})


def variables_in(rule):
    head, body = rule
    terms = list(head[1]) + [term for mark, atom in body for term in atom[1]]
    return sorted({term for term in terms if not term.islower()})


def with_words(atom, words):
    return (atom[0], tuple(words[term] if term in words else term for term in atom[1]))


def all_words(rule, pool):
    variables = variables_in(rule)
    for picked in itertools.product(pool, repeat=len(variables)):
        yield dict(zip(variables, picked))


def holds(rule, words, facts):
    return all((with_words(atom, words) in facts) == (mark == "yes") for mark, atom in rule[1])


def ways(rule, facts):
    found = []
    for words in all_words(rule, words_in([rule], facts)):
        if holds(rule, words, facts):
            found.append(tuple((variable, words[variable]) for variable in sorted(words)))
    return tuple(sorted(found))


def instances(rules, facts):
    """(number of the rule, head, yes facts in order, no facts) for all rules and all words."""
    pool = words_in(rules, facts)
    found = []
    for number, rule in enumerate(rules):
        for words in all_words(rule, pool):
            told = [with_words(atom, words) for mark, atom in rule[1] if mark == "yes"]
            denied = [with_words(atom, words) for mark, atom in rule[1] if mark == "no"]
            found.append((number, with_words(rule[0], words), told, denied))
    return found


def model(rules, facts):
    levels = raised_levels(rules)
    lines = instances(rules, facts)
    found = set(facts)
    for level in sorted(set(levels.values())):
        before = frozenset(fact for fact in found if levels.get(fact[0], level) < level)
        grown = True
        while grown:
            grown = False
            for number, head, told, denied in lines:
                if levels[head[0]] == level and head not in found and found.issuperset(told):
                    if before.isdisjoint(denied):
                        found.add(head)
                        grown = True
    return found


def ranks(rules, facts, held):
    """Held are the facts of the model. Ranks are lowered from too great ones until nothing gets less."""
    great = len(held) + 1
    found = {fact: 0 if fact in facts else great for fact in held}
    lines = [line for line in instances(rules, facts) if held.issuperset(line[2]) and held.isdisjoint(line[3])]
    lowered = True
    while lowered:
        lowered = False
        for number, head, told, denied in lines:
            rank = 1 + max([found[fact] for fact in told], default=0)
            if rank < found[head]:
                found[head] = rank
                lowered = True
    return found


def broken(rules, facts):
    there = set(facts)
    found = set()
    for number, head, told, denied in instances(rules, facts):
        if there.issuperset(told) and there.isdisjoint(denied) and head not in there:
            found.add((number, head))
    return tuple(sorted(found))


def is_whole(thing):
    return type(thing) is int


def line_form(line, number):
    if type(line) is not tuple or not line:
        return False
    if line[0] == "given":
        return len(line) == 2
    if line[0] != "by" or len(line) != 4 or not is_whole(line[1]) or type(line[3]) is not tuple:
        return False
    return all(is_whole(told) and 0 <= told < number for told in line[3])


class Judge:
    """Whether things are reasons, for some rules and facts."""

    def __init__(self, rules, facts):
        self.facts = list(facts)
        self.held = model(rules, facts)
        self.steps = [
            (number, head, tuple(told)) for number, head, told, denied in instances(rules, facts)
            if self.held.isdisjoint(denied)
        ]

    def accepts(self, reason):
        if type(reason) is not tuple or not reason:
            return False
        if not all(line_form(line, number) for number, line in enumerate(reason)):
            return False
        facts = [line[1] if line[0] == "given" else line[2] for line in reason]
        for line, fact in zip(reason, facts):
            if line[0] == "given":
                if fact not in self.facts:
                    return False
            elif (line[1], fact, tuple(facts[told] for told in line[3])) not in self.steps:
                return False
        return True


def depth(reason, number=None):
    line = reason[-1] if number is None else reason[number]
    if line[0] == "given":
        return 0
    return 1 + max([depth(reason, told) for told in line[3]], default=0)
