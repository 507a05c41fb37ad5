"""A second opinion on things and texts, by patterns over repr and over whole texts.

It shares no step with the package, so that a fault there does not hide itself here.
"""

import re

NAME = r"(?!(?:rule|fact|if|and|not)(?![a-z]))[a-z]{1,8}(?![a-z])"
VARIABLE = r"[A-Z][0-9]?(?![A-Za-z0-9])"


def tuple_pattern(member, most):
    return rf"\((?:{member},|{member}(?:, {member}){{1,{most - 1}}})?\)"


SHOWN_WORD = rf"'{NAME}'"
SHOWN_TERM = rf"'(?:{NAME}|{VARIABLE})'"
SHOWN_ATOM = rf"\({SHOWN_WORD}, {tuple_pattern(SHOWN_TERM, 3)}\)"
SHOWN_FACT = rf"\({SHOWN_WORD}, {tuple_pattern(SHOWN_WORD, 3)}\)"
SHOWN_LITERAL = rf"\('(?:yes|no)', {SHOWN_ATOM}\)"
SHOWN_RULE = rf"\({SHOWN_ATOM}, {tuple_pattern(SHOWN_LITERAL, 4)}\)"

ATOM = rf"{NAME}(?: (?:{NAME}|{VARIABLE})){{0,3}}"
LITERAL = rf"(?:not )?{ATOM}"
RULE_ROW = rf"rule {ATOM}(?: if {LITERAL}(?: and {LITERAL}){{0,3}})?\n"
FACT_ROW = rf"fact {NAME}(?: {NAME}){{0,3}}\n"


def shows(pattern, thing):
    return re.fullmatch(pattern, repr(thing)) is not None


def is_atom(thing):
    return shows(SHOWN_ATOM, thing)


def is_rule(thing):
    if not shows(SHOWN_RULE, thing):
        return False
    yes_atoms = "".join(re.findall(rf"\('yes', ({SHOWN_ATOM})\)", repr(thing[1])))
    shown_variable = rf"'({VARIABLE})'"
    return set(re.findall(shown_variable, repr(thing))) == set(re.findall(shown_variable, yes_atoms))


def even(pairs):
    return len(set(pairs)) == len({kind for kind, count in pairs})


def shown_counts(thing):
    found = []
    for atom in re.findall(SHOWN_ATOM, repr(thing)):
        names = re.findall(r"'(\w+)'", atom)
        found.append((names[0], len(names)))
    return found


def are_rules(thing):
    if not isinstance(thing, tuple) or len(thing) > 16:
        return False
    return all(is_rule(part) for part in thing) and even(shown_counts(thing))


def are_facts(thing, rules):
    if not isinstance(thing, tuple) or len(thing) > 64:
        return False
    if not all(shows(SHOWN_FACT, part) for part in thing):
        return False
    return sorted(set(thing)) == list(thing) and even(shown_counts((rules, thing)))


def is_safe_row(row):
    yes_atoms = " ".join(re.findall(rf" (?:if|and) (?!not )({ATOM})", row))
    return set(re.findall(VARIABLE, row)) == set(re.findall(VARIABLE, yes_atoms))


def is_writing(text):
    if not re.fullmatch(rf"(?:{RULE_ROW}){{0,16}}(?:{FACT_ROW}){{0,64}}", text):
        return False
    rows = text.split("\n")[:-1]
    pairs = []
    for row in rows:
        for atom in re.split(r" (?:if|and)(?: not)? ", row[5:]):
            names = atom.split(" ")
            pairs.append((names[0], len(names)))
    facts = [tuple(row.split(" ")) for row in rows if row.startswith("fact")]
    return even(pairs) and sorted(set(facts)) == facts and all(is_safe_row(row) for row in rows)
