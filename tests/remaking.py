"""A second making of needed kinds, answers, plain, turned, covered and unfolded rules.

It goes straight by the words of the document and shares no step with the package.
"""

import ast
import itertools
import re

import reckoning

CAPITALS = "ABCDEFGHIJKLMNOPQRSTUVWXYZ"
NAMES = [letter + figure for figure in ("", "1", "2") for letter in CAPITALS]


def needed(rules, kind):
    found = {kind}
    while True:
        more = found | {atom[0] for head, body in rules if head[0] in found for mark, atom in body}
        if more == found:
            return tuple(sorted(found))
        found = more


def answers(rules, facts, atom):
    """By trying all words for the atom's variables."""
    held = reckoning.model(rules, facts)
    variables = sorted({term for term in atom[1] if not term.islower()})
    pool = reckoning.words_in(rules, facts)
    tried = itertools.product(pool, repeat=len(variables))
    return tuple(sorted({reckoning.with_words(atom, dict(zip(variables, picked))) for picked in tried} & held))


def plain(rule):
    """By the signs of the shown rule: nothing else in it is a capital letter."""
    names = {}

    def renamed(found):
        return names.setdefault(found.group(), NAMES[len(names)])

    return ast.literal_eval(re.sub(r"[A-Z][0-9]*", renamed, repr(rule)))


def turned(rule, names):
    def atom_turned(atom):
        kind, terms = atom
        words = {word: names[word] for word in names if word.islower()}
        return (words.get(kind, kind), tuple(words.get(term, term) for term in terms))

    head, body = rule
    return (atom_turned(head), tuple((mark, atom_turned(atom)) for mark, atom in body))


def terms_in(rule):
    head, body = rule
    return sorted(set(head[1]).union(*[atom[1] for mark, atom in body]))


def with_terms(rule, terms):
    head, body = rule
    return (reckoning.with_words(head, terms), tuple((mark, reckoning.with_words(atom, terms)) for mark, atom in body))


def covers(one, other):
    """By trying all terms of the other rule for the variables."""
    variables = reckoning.variables_in(one)
    for picked in itertools.product(terms_in(other), repeat=len(variables)):
        head, body = with_terms(one, dict(zip(variables, picked)))
        if head == other[0] and set(body) <= set(other[1]):
            return True
    return False


def tagged(rule, tag):
    return with_terms(rule, {variable: variable + tag for variable in reckoning.variables_in(rule)})


def merged(pairs):
    """Groups of terms that must be the same, as lists without an order."""
    groups = []
    for pair in pairs:
        joint = set(pair)
        apart = []
        for group in groups:
            if group & joint:
                joint |= group
            else:
                apart.append(group)
        groups = apart + [joint]
    return groups


def unfolded_by(rule, place, other):
    """The rule that comes, before it is asked how long it is; None where none comes."""
    (head, body), (other_head, other_body) = tagged(rule, "1"), tagged(other, "2")
    kind, terms = body[place][1]
    if kind != other_head[0]:
        return None
    chosen = {}
    for group in merged(zip(terms, other_head[1])):
        words = sorted(term for term in group if term.islower())
        if len(words) > 1:
            return None
        chosen.update({term: (words or sorted(group))[0] for term in group})
    return plain(with_terms((head, body[:place] + other_body + body[place + 1:]), chosen))


def coming(rules, number, place):
    found = [unfolded_by(rules[number], place, other) for other in rules]
    return tuple(rule for rule in found if rule is not None)
