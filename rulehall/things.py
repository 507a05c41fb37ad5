"""What atoms, facts, rules and tuples of them are. Every question here may be asked of any thing."""

SMALL_LETTERS = "abcdefghijklmnopqrstuvwxyz"
CAPITAL_LETTERS = "ABCDEFGHIJKLMNOPQRSTUVWXYZ"
FIGURES = "0123456789"
# The rows of a text could be read in two ways if these were names.
KEPT_WORDS = ("rule", "fact", "if", "and", "not")
MOST_LETTERS = 8
MOST_TERMS = 3
MOST_LITERALS = 4
MOST_RULES = 16
MOST_FACTS = 64


def is_word(thing):
    return (
        isinstance(thing, str)
        and 1 <= len(thing) <= MOST_LETTERS
        and all([sign in SMALL_LETTERS for sign in thing])
        and thing not in KEPT_WORDS
    )


def is_variable(thing):
    return (
        isinstance(thing, str)
        and 1 <= len(thing) <= 2
        and thing[0] in CAPITAL_LETTERS
        and all([sign in FIGURES for sign in thing[1:]])
    )


def is_term(thing):
    return is_word(thing) or is_variable(thing)


def is_pair(thing):
    return isinstance(thing, tuple) and len(thing) == 2


def is_short_tuple(thing, most):
    return isinstance(thing, tuple) and len(thing) <= most


def is_atom(thing):
    return (
        is_pair(thing)
        and is_word(thing[0])
        and is_short_tuple(thing[1], MOST_TERMS)
        and all([is_term(term) for term in thing[1]])
    )


def is_fact(thing):
    return is_atom(thing) and all([is_word(term) for term in thing[1]])


def is_literal(thing):
    return is_pair(thing) and thing[0] in ("yes", "no") and is_atom(thing[1])


def is_rule(thing):
    return (
        is_pair(thing)
        and is_atom(thing[0])
        and is_short_tuple(thing[1], MOST_LITERALS)
        and all([is_literal(literal) for literal in thing[1]])
        and is_safe(thing)
    )


def is_safe(rule):
    bound = variables_of([literal[1] for literal in rule[1] if literal[0] == "yes"])
    return all([variable in bound for variable in variables_of(atoms_of(rule))])


def variables_of(atoms):
    found = []
    for atom in atoms:
        found.extend([term for term in atom[1] if is_variable(term)])
    return found


def atoms_of(rule):
    return [rule[0]] + [literal[1] for literal in rule[1]]


def all_atoms_of(rules):
    found = []
    for rule in rules:
        found.extend(atoms_of(rule))
    return found


def have_even_terms(atoms):
    counts = {}
    for atom in atoms:
        count = len(atom[1])
        if counts.setdefault(atom[0], count) != count:
            return False
    return True


def are_rising(facts):
    return all([fact < later for fact, later in zip(facts, facts[1:])])


def are_rules(thing):
    return (
        is_short_tuple(thing, MOST_RULES)
        and all([is_rule(member) for member in thing])
        and have_even_terms(all_atoms_of(thing))
    )


def are_facts(thing, rules):
    # Whether they rise is asked behind what they are: things of differing kinds can't be compared.
    return (
        is_short_tuple(thing, MOST_FACTS)
        and all([is_fact(member) for member in thing])
        and are_rising(thing)
        and have_even_terms(all_atoms_of(rules) + list(thing))
    )
