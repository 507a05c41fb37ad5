"""Unfolding: in a rule's place those in which a literal gives way to the bodies of its kind's rules."""

from rulehall.errors import NoPlace, NoRoom
from rulehall.levels import levels_of
from rulehall.things import MOST_LITERALS, MOST_RULES
from rulehall.turning import plain, variables_by_coming, with_terms
from rulehall.ways import is_open


def last_term(terms, term):
    while term in terms:
        term = terms[term]
    return term


def meeting_terms(one, other):
    # The most general terms for variables by which both atoms are the same; None where there are none.
    if one[0] != other[0] or len(one[1]) != len(other[1]):
        return None
    terms = {}
    for left, right in zip(one[1], other[1]):
        first = last_term(terms, left)
        second = last_term(terms, right)
        if first != second and is_open(first):
            terms[first] = second
        elif first != second and is_open(second):
            terms[second] = first
        elif first != second:
            return None
    return dict([(variable, last_term(terms, variable)) for variable in terms])


def set_apart(rule):
    # No variable has this sign, so none of another rule is called the same.
    return with_terms(rule, dict([(variable, variable + "'") for variable in variables_by_coming(rule)]))


def refuse_place(rules, number, place):
    if not 0 <= number < len(rules):
        raise NoPlace("there is no such rule")
    body = rules[number][1]
    if not 0 <= place < len(body):
        raise NoPlace("the rule has no such literal")
    if body[place][0] != "yes":
        raise NoPlace("the literal is a no literal")


def rules_by(rule, place, others):
    apart = set_apart(rule)
    found = []
    for head, body in others:
        terms = meeting_terms(apart[1][place][1], head)
        if terms is not None:
            longer = (apart[0], apart[1][:place] + body + apart[1][place + 1:])
            found.append(plain(with_terms(longer, terms)))
    return tuple(found)


def unfolded(rules, number, place):
    levels_of(rules)
    refuse_place(rules, number, place)
    coming = rules_by(rules[number], place, rules)
    if any([len(body) > MOST_LITERALS for head, body in coming]):
        raise NoRoom("a body would have too many literals")
    if len(rules) - 1 + len(coming) > MOST_RULES:
        raise NoRoom("there would be too many rules")
    return rules[:number] + coming + rules[number + 1:]
