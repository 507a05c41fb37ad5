"""The names and arguments that the interface tells, as they stand there."""

import importlib
import inspect
import unittest

FUNCTIONS = {
    "things": ("is_atom(thing)", "is_rule(thing)", "are_rules(thing)", "are_facts(thing, rules)"),
    "writing": ("written(rules, facts)",),
    "reading": ("read(text)",),
    "levels": ("levels_of(rules)",),
    "ways": ("ways(rule, facts)",),
    "models": ("model(rules, facts)", "ranks(rules, facts)", "kept(rules, facts)", "broken(rules, facts)"),
    "reasons": ("accepted(rules, facts, reason)", "reason_of(rules, facts, fact)", "depth(reason)"),
    "asking": ("needed(rules, kind)", "answers(rules, facts, atom)", "narrowed(rules, facts, kind)"),
    "halls": ("Hall(rules, facts)",),
    "turning": ("plain(rule)", "turned(rule, names)", "covers(one, other)", "lean(rules)"),
    "unfolding": ("unfolded(rules, number, place)",),
}
METHODS = ("put(self, fact)", "take(self, fact)", "given(self)", "now(self)")


def shown(thing):
    return thing.__name__ + str(inspect.signature(thing))


class Interface(unittest.TestCase):
    def test_functions(self):
        for name, wanted in FUNCTIONS.items():
            module = importlib.import_module("rulehall." + name)
            for call in wanted:
                thing = getattr(module, call.partition("(")[0])
                self.assertEqual(shown(thing), call)
                self.assertEqual(thing.__module__, "rulehall." + name)

    def test_methods(self):
        hall = importlib.import_module("rulehall.halls").Hall
        for call in METHODS:
            self.assertEqual(shown(getattr(hall, call.partition("(")[0])), call)


if __name__ == "__main__":
    unittest.main()
