"""Rules under other names, and rules that others cover."""

from rulehall.things import CAPITAL_LETTERS, atoms_of
from rulehall.ways import Shelf, filled, is_open, marked_atoms, ways_along


def with_terms(rule, terms):
    body = [(mark, filled(atom, terms)) for mark, atom in rule[1]]
    return (filled(rule[0], terms), tuple(body))


def variables_by_coming(rule):
    found = {}
    for atom in atoms_of(rule):
        for variable in [term for term in atom[1] if is_open(term)]:
            found[variable] = True
    return list(found)


def name_at(place):
    letter = CAPITAL_LETTERS[place % len(CAPITAL_LETTERS)]
    figure = place // len(CAPITAL_LETTERS)
    return letter + str(figure) if figure > 0 else letter


def plain(rule):
    variables = variables_by_coming(rule)
    return with_terms(rule, dict([(variable, name_at(place)) for place, variable in enumerate(variables)]))


def turned_atom(atom, names):
    # A variable is no word, and stays even where names has it as a key.
    terms = [term if is_open(term) else names.get(term, term) for term in atom[1]]
    return (names.get(atom[0], atom[0]), tuple(terms))


def turned(rule, names):
    body = [(mark, turned_atom(atom, names)) for mark, atom in rule[1]]
    return (turned_atom(rule[0], names), tuple(body))


def covers(one, other):
    # The terms are sought as words are among facts: the variables of the other rule stand there as they are.
    shelves = {"yes": Shelf(marked_atoms(other, "yes")), "no": Shelf(marked_atoms(other, "no"))}
    order = [(one[0], Shelf([other[0]]))] + [(atom, shelves[mark]) for mark, atom in one[1]]
    return len(ways_along(order, [])) > 0


def is_spare(rules, number):
    rule = rules[number]
    for place, other in enumerate(rules):
        # Of two that cover one another the later one is spare.
        if place != number and covers(other, rule) and (place < number or not covers(rule, other)):
            return True
    return False


def lean(rules):
    return tuple([rule for number, rule in enumerate(rules) if not is_spare(rules, number)])
