"""Reasons: lines that lead from given facts, rule by rule, to a fact of the model."""

from rulehall.errors import NoReason
from rulehall.models import held_facts, origins_of
from rulehall.ways import filled, is_denied, marked_atoms, matched


def is_tuple_of(thing, count):
    return isinstance(thing, tuple) and len(thing) == count


def is_number_below(thing, bound):
    return isinstance(thing, int) and not isinstance(thing, bool) and 0 <= thing < bound


def is_given_line(line, facts):
    return is_tuple_of(line, 2) and line[0] == "given" and line[1] in facts


def has_by_form(line, rules, ahead):
    return (
        is_tuple_of(line, 4)
        and line[0] == "by"
        and is_number_below(line[1], len(rules))
        and is_tuple_of(line[3], len(marked_atoms(rules[line[1]], "yes")))
        and all([is_number_below(number, len(ahead)) for number in line[3]])
    )


def words_for(atoms, facts):
    words = {}
    for atom, fact in zip(atoms, facts):
        words = matched(words, atom, fact)
        if words is None:
            return None
    return words


def is_by_line(line, rules, ahead, held):
    if not has_by_form(line, rules, ahead):
        return False
    rule = rules[line[1]]
    words = words_for(marked_atoms(rule, "yes"), [ahead[number] for number in line[3]])
    return words is not None and filled(rule[0], words) == line[2] and not is_denied(rule, words, held)


def accepted(rules, facts, reason):
    held = held_facts(rules, facts)
    if not isinstance(reason, tuple):
        return False
    ahead = []
    for line in reason:
        if is_given_line(line, facts):
            ahead.append(line[1])
        elif is_by_line(line, rules, ahead, held):
            ahead.append(line[2])
        else:
            return False
    return len(ahead) > 0


def facts_behind(origins, fact):
    # By rising ranks, so that each fact stands behind those that it follows from, and the asked one last.
    waiting = [fact]
    behind = {}
    while waiting:
        told = waiting.pop()
        if told not in behind:
            behind[told] = True
            waiting.extend(origins[told][2])
    return sorted(behind, key=lambda told: (origins[told][0], told))


def line_of(fact, origin, places):
    if origin[0] == 0:
        return ("given", fact)
    return ("by", origin[1], fact, tuple([places[told] for told in origin[2]]))


def reason_of(rules, facts, fact):
    origins = origins_of(rules, facts)
    if fact not in origins:
        raise NoReason("the fact is not in the model")
    order = facts_behind(origins, fact)
    places = dict([(told, place) for place, told in enumerate(order)])
    return tuple([line_of(told, origins[told], places) for told in order])


def depth(reason):
    depths = []
    for line in reason:
        if line[0] == "given":
            depths.append(0)
        else:
            depths.append(1 + max([depths[number] for number in line[3]] + [0]))
    return depths[-1]
