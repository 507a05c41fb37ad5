"""The model of rules and facts, the ranks of its facts, and the rules that are broken among facts."""

from rulehall.levels import levels_of
from rulehall.ways import Shelf, filled, is_denied, marked_atoms, ways_along

# An origin is the fact's rank, the number of the rule that it follows by, and the facts that it follows from.
GIVEN = (0, None, ())


def orders_of(atoms, whole, fresh):
    if fresh is None:
        return [[(atom, whole) for atom in atoms]]
    # What has not come before needs a fresh fact: each atom in turn is sought among those, ahead of the others.
    orders = []
    for place, atom in enumerate(atoms):
        others = atoms[:place] + atoms[place + 1:]
        orders.append([(atom, fresh)] + [(other, whole) for other in others])
    return orders


def ways_to_head(rule, whole, fresh):
    lasting = [rule[0]] + marked_atoms(rule, "no")
    found = []
    for order in orders_of(marked_atoms(rule, "yes"), whole, fresh):
        found.extend(ways_along(order, lasting))
    return found


def followers(rules, whole, fresh, denied):
    # The facts that are not there yet and follow in one step, each with its rule's number and what it follows from.
    coming = {}
    for number, rule in enumerate(rules):
        for words in ways_to_head(rule, whole, fresh):
            head = filled(rule[0], words)
            if head not in whole.there and head not in coming and not is_denied(rule, words, denied):
                coming[head] = (number, tuple([filled(atom, words) for atom in marked_atoms(rule, "yes")]))
    return coming


def origins_among(rules, facts, denied):
    # Step by step, so that each fact comes at its least rank; no literals look among the denied facts alone.
    origins = dict([(fact, GIVEN) for fact in facts])
    whole = Shelf(facts)
    rank = 1
    coming = followers(rules, whole, None, denied)
    while coming:
        for fact in coming:
            whole.add(fact)
            origins[fact] = (rank,) + coming[fact]
        rank += 1
        coming = followers(rules, whole, Shelf(list(coming)), denied)
    return origins


def held_facts(rules, facts):
    levels = dict(levels_of(rules))
    held = dict([(fact, True) for fact in facts])
    for level in sorted(set([levels[rule[0][0]] for rule in rules])):
        here = [rule for rule in rules if levels[rule[0][0]] == level]
        # All that the no literals of this level ask for is settled by now.
        held = origins_among(here, list(held), held)
    return held


def origins_of(rules, facts):
    return origins_among(rules, facts, held_facts(rules, facts))


def model(rules, facts):
    return tuple(sorted(held_facts(rules, facts)))


def ranks(rules, facts):
    origins = origins_of(rules, facts)
    return tuple([(fact, origins[fact][0]) for fact in sorted(origins)])


def broken(rules, facts):
    levels_of(rules)
    shelf = Shelf(facts)
    found = {}
    for number, rule in enumerate(rules):
        for fact in followers([rule], shelf, None, shelf.there):
            found[(number, fact)] = True
    return tuple(sorted(found))


def kept(rules, facts):
    return len(broken(rules, facts)) == 0
