"""Rules and facts as a text."""

from rulehall.errors import NoThing
from rulehall.things import are_facts, are_rules


def atom_text(atom):
    return " ".join((atom[0],) + atom[1])


def literal_text(literal):
    text = atom_text(literal[1])
    return text if literal[0] == "yes" else "not " + text


def rule_row(rule):
    row = "rule " + atom_text(rule[0])
    if rule[1]:
        row = row + " if " + " and ".join([literal_text(literal) for literal in rule[1]])
    return row


def fact_row(fact):
    return "fact " + atom_text(fact)


def written(rules, facts):
    if not are_rules(rules):
        raise NoThing("these are no rules")
    if not are_facts(facts, rules):
        raise NoThing("these are no facts with the rules")
    rows = [rule_row(rule) for rule in rules] + [fact_row(fact) for fact in facts]
    return "".join([row + "\n" for row in rows])
