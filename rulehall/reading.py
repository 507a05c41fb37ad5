"""The rules and facts of which a text is the writing."""

from rulehall.errors import NoText, NoThing
from rulehall.writing import written


def atom_of(text):
    names = text.split(" ")
    return (names[0], tuple(names[1:]))


def literal_of(text):
    if text.startswith("not "):
        return ("no", atom_of(text[len("not "):]))
    return ("yes", atom_of(text))


def rule_of(text):
    parts = text.split(" if ", 1)
    literals = parts[1].split(" and ") if len(parts) == 2 else []
    return (atom_of(parts[0]), tuple([literal_of(literal) for literal in literals]))


def pair_of(text):
    # Nothing is refused here: what is amiss in the text shows when the pair is written again.
    rows = text.split("\n")
    rules = [rule_of(row[len("rule "):]) for row in rows if row.startswith("rule ")]
    facts = [atom_of(row[len("fact "):]) for row in rows if row.startswith("fact ")]
    return (tuple(rules), tuple(facts))


def is_writing_of(text, pair):
    try:
        again = written(pair[0], pair[1])
    except NoThing:
        return False
    return again == text


def read(text):
    pair = pair_of(text)
    if not is_writing_of(text, pair):
        raise NoText("the text is not the writing of rules and facts")
    return pair
