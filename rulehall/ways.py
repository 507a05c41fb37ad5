"""Words for the variables of a rule, sought among facts. A way under work is a dict from variables to words."""

from rulehall.things import atoms_of


class Shelf:
    # Facts in rows by their kinds, and by each word in its place, so that few facts are tried for an atom.
    def __init__(self, facts):
        self.there = {}
        self.rows = {}
        for fact in facts:
            self.add(fact)

    def add(self, fact):
        self.there[fact] = True
        self.rows.setdefault((fact[0],), []).append(fact)
        for place, word in enumerate(fact[1]):
            self.rows.setdefault((fact[0], place, word), []).append(fact)

    def near(self, atom, words):
        # The shortest row in which each fact stands that the atom may become.
        places = [(atom[0],)]
        for place, word in enumerate(filled(atom, words)[1]):
            if not is_open(word):
                places.append((atom[0], place, word))
        return min([self.rows.get(key, []) for key in places], key=len)


def is_open(term):
    # Terms are words or variables, and of these the variables alone begin with a capital.
    return term[:1].isupper()


def marked_atoms(rule, mark):
    return [literal[1] for literal in rule[1] if literal[0] == mark]


def filled(atom, words):
    return (atom[0], tuple([words.get(term, term) for term in atom[1]]))


def matched(words, atom, fact):
    # The words, with those more by which the atom is the fact; None where it can't be.
    if atom[0] != fact[0] or len(atom[1]) != len(fact[1]):
        return None
    longer = dict(words)
    for term, word in zip(atom[1], fact[1]):
        wanted = longer.setdefault(term, word) if is_open(term) else term
        if wanted != word:
            return None
    return longer


def joined(found, atom, shelf):
    longer = []
    for words in found:
        tried = [matched(words, atom, fact) for fact in shelf.near(atom, words)]
        longer.extend([more for more in tried if more is not None])
    return longer


def thinned(found, atoms):
    # Of the ways that say the same of these atoms one is enough: the others would only be walked for nothing.
    firsts = {}
    for words in found:
        firsts.setdefault(tuple([filled(atom, words) for atom in atoms]), words)
    return list(firsts.values())


def ways_along(order, lasting):
    # The order is of pairs of an atom and the shelf on which it is sought; of the lasting atoms all words are asked.
    found = [{}]
    for place, pair in enumerate(order):
        later = [atom for atom, shelf in order[place + 1:]]
        found = thinned(joined(found, pair[0], pair[1]), later + lasting)
    return found


def is_denied(rule, words, facts):
    return any([filled(atom, words) in facts for atom in marked_atoms(rule, "no")])


def ways(rule, facts):
    shelf = Shelf(facts)
    order = [(atom, shelf) for atom in marked_atoms(rule, "yes")]
    found = [words for words in ways_along(order, atoms_of(rule)) if not is_denied(rule, words, shelf.there)]
    return tuple(sorted([tuple(sorted(words.items())) for words in found]))
