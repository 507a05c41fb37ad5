import random
import unittest

import draws
import reckoning
import remaking
from rulehall.asking import answers, narrowed, needed
from rulehall.models import model
from rulehall.reading import read
from rulehall.things import are_facts, are_rules
from samples import no, numbered, rule, yes

PATHS, EDGES = read(
    "rule path A B if edge A B\nrule path A C if path A B and edge B C\nrule far A C if path A C and not edge A C\n"
    "rule lone A if node A and not near A\nrule near A if edge A B\nrule near B if edge A B\nrule open\n"
    "fact edge a a\nfact edge a b\nfact edge b c\nfact mark x\nfact node a\nfact node d\nfact trio a b a\n"
    "fact trio a b c\n"
)
DRAWN = draws.pairs(71, 200)


def atoms_for(source, kind, count):
    """Atoms of this kind with variables and words, one of them oftener than the others."""
    terms = source.choice((draws.VARIABLES, draws.WORDS, ("A",), ("A", "B", "a", "b")))
    return [(kind, tuple(source.choice(terms) for place in range(draws.COUNTS[kind]))) for turn in range(count)]


class Needed(unittest.TestCase):
    def told(self, rules, kind, *wanted):
        self.assertEqual(needed(rules, kind), wanted)
        self.assertEqual(needed(rules[::-1], kind), wanted)

    def test_no_rules(self):
        self.told((), "p", "p")

    def test_a_kind_that_stands_nowhere(self):
        self.told(PATHS, "nowhere", "nowhere")

    def test_a_kind_of_bodies_alone(self):
        self.told(PATHS, "edge", "edge")
        self.told(PATHS, "node", "node")

    def test_a_kind_of_heads(self):
        self.told(PATHS, "near", "edge", "near")
        self.told(PATHS, "path", "edge", "path")

    def test_a_head_without_a_body(self):
        self.told(PATHS, "open", "open")

    def test_by_no_literals(self):
        self.told(PATHS, "far", "edge", "far", "path")
        self.told(PATHS, "lone", "edge", "lone", "near", "node")
        self.told((rule("p", (), no("q")), rule("q", (), no("r")), rule("s", (), no("p"))), "p", "p", "q", "r")

    def test_several_rules_of_a_kind(self):
        rules = (rule("p", (), yes("q")), rule("s", (), yes("t")), rule("p", (), yes("r"), no("a")), rule("p", ()))
        self.told(rules, "p", "a", "p", "q", "r")

    def test_rings_of_yes_literals(self):
        rules = (rule("p", (), yes("q")), rule("q", (), yes("r")), rule("r", (), yes("p"), no("s")), rule("t", ()))
        for kind in "pqr":
            self.told(rules, kind, "p", "q", "r", "s")
        self.told(rules, "s", "s")
        self.told((rule("p", (), yes("p")),), "p", "p")

    def test_it_does_not_go_up(self):
        rules = (rule("p", (), yes("q")), rule("r", (), yes("q")), rule("s", (), yes("p")))
        self.told(rules, "q", "q")
        self.told(rules, "p", "p", "q")

    def test_a_long_chain_and_two_ways_to_one(self):
        kinds = "abcdefghijklmnopq"
        rules = tuple(rule(above, (), yes(kind)) for kind, above in zip(kinds, kinds[1:]))
        for place, kind in enumerate(kinds):
            self.told(rules, kind, *kinds[:place + 1])
        self.told((rule("p", (), yes("q"), yes("r")), rule("q", (), yes("s")), rule("r", (), no("s"))), "p", *"pqrs")

    def test_words_are_no_kinds(self):
        self.told((rule("p", ("q",), yes("r", "s", "A")), rule("q", (), yes("t")), rule("s", ())), "p", "p", "r")

    def test_more_rules_than_may_be(self):
        rules = tuple(rule("p", (), yes(name)) for name in numbered(20))
        self.told(rules, "p", *numbered(20), "p")

    def test_drawn(self):
        wide = 0
        for rules, facts in DRAWN:
            for kind in draws.KINDS + ["nowhere"]:
                found = needed(rules, kind)
                self.assertEqual(found, remaking.needed(rules, kind), (rules, kind))
                self.assertIs(type(found), tuple)
                self.assertEqual(list(found), sorted(set(found)))
                self.assertIn(kind, found)
                wide += len(found) > 2
        self.assertGreater(wide, 200)


class Answers(unittest.TestCase):
    def told(self, kind, terms, *wanted):
        found = answers(PATHS, EDGES, (kind, terms))
        self.assertEqual(found, tuple((kind, tuple(words)) for words in wanted))
        self.assertEqual(found, remaking.answers(PATHS, EDGES, (kind, terms)))

    def test_words_alone(self):
        self.told("path", ("a", "c"), "ac")
        self.told("path", ("c", "a"))
        self.told("edge", ("a", "b"), "ab")
        self.told("edge", ("a", "nobody"))

    def test_variables_alone(self):
        self.told("path", ("A", "B"), "aa", "ab", "ac", "bc")
        self.told("path", ("Z9", "B1"), "aa", "ab", "ac", "bc")
        self.told("far", ("B", "A"), "ac")
        self.told("lone", ("A",), "d")

    def test_both(self):
        self.told("path", ("a", "B"), "aa", "ab", "ac")
        self.told("path", ("A", "c"), "ac", "bc")
        self.told("path", ("d", "A"))

    def test_one_variable_twice(self):
        self.told("path", ("A", "A"), "aa")
        self.told("far", ("A", "A"))
        self.told("trio", ("A", "B", "A"), "aba")
        self.told("trio", ("A", "B", "C"), "aba", "abc")
        self.told("trio", ("A", "A", "A"))
        self.told("trio", ("A", "b", "A"), "aba")
        self.told("trio", ("C", "A", "c"), "abc")

    def test_no_terms(self):
        self.told("open", (), ())
        self.assertEqual(answers(PATHS, EDGES, ("shut", ())), ())

    def test_a_kind_that_stands_nowhere(self):
        self.told("nowhere", ("A",))
        self.told("nowhere", ())

    def test_a_kind_of_given_facts_alone(self):
        self.told("mark", ("A",), "x")
        self.told("mark", ("x",), "x")
        self.told("mark", ("a",))

    def test_another_number_of_terms(self):
        for terms in ((), ("A",), ("a",), ("A", "B", "C"), ("a", "b", "c"), ("A", "A", "A")):
            self.assertEqual(answers(PATHS, EDGES, ("path", terms)), ())
            self.assertEqual(answers(PATHS, EDGES, ("edge", terms)), ())
        self.assertEqual(answers(PATHS, EDGES, ("open", ("A",))), ())

    def test_words_of_no_rule_and_no_fact(self):
        rules = (rule("p", ("z",)), rule("p", ("A",), yes("q", "A")))
        self.assertEqual(answers(rules, (), ("p", ("A",))), (("p", ("z",)),))
        self.assertEqual(answers(rules, (), ("p", ("y",))), ())

    def test_neither_rules_nor_facts(self):
        self.assertEqual(answers((), (), ("p", ("A",))), ())

    def test_drawn(self):
        source = random.Random(72)
        some = several = 0
        for rules, facts in DRAWN:
            for kind in draws.KINDS:
                for atom in atoms_for(source, kind, 2):
                    found = answers(rules, facts, atom)
                    self.assertEqual(found, remaking.answers(rules, facts, atom), (rules, facts, atom))
                    self.assertIs(type(found), tuple)
                    some += len(found) > 0
                    several += len(found) > 2
        self.assertGreater(some, 300)
        self.assertGreater(several, 100)


class Narrowed(unittest.TestCase):
    def test_rules_in_order_and_facts(self):
        self.assertEqual(narrowed(PATHS, EDGES, "far"), (PATHS[:3], EDGES[:3]))
        self.assertEqual(narrowed(PATHS, EDGES, "lone"), (PATHS[3:6], EDGES[:3] + EDGES[4:6]))
        self.assertEqual(narrowed(PATHS[::-1], EDGES, "path"), (PATHS[1::-1], EDGES[:3]))

    def test_a_kind_of_bodies_alone(self):
        self.assertEqual(narrowed(PATHS, EDGES, "edge"), ((), EDGES[:3]))

    def test_a_kind_of_facts_alone(self):
        self.assertEqual(narrowed(PATHS, EDGES, "mark"), ((), EDGES[3:4]))

    def test_a_kind_that_stands_nowhere(self):
        self.assertEqual(narrowed(PATHS, EDGES, "nowhere"), ((), ()))
        self.assertEqual(narrowed((), (), "p"), ((), ()))

    def test_a_rule_stays_as_often_as_it_stands(self):
        rules = (rule("p", (), yes("q")), rule("s", ()), rule("p", (), yes("q")))
        self.assertEqual(narrowed(rules, (), "p"), (rules[::2], ()))

    def test_drawn(self):
        less = 0
        for rules, facts in DRAWN:
            whole = model(rules, facts)
            for kind in draws.KINDS + ["nowhere"]:
                found = narrowed(rules, facts, kind)
                kinds = remaking.needed(rules, kind)
                self.assertIs(type(found), tuple)
                self.assertIs(are_rules(found[0]), True)
                self.assertIs(are_facts(found[1], rules), True)
                self.assertEqual(found[0], tuple(one for one in rules if one[0][0] in kinds))
                self.assertEqual(found[1], tuple(fact for fact in facts if fact[0] in kinds))
                self.assertEqual(model(*found), tuple(fact for fact in whole if fact[0] in kinds))
                less += 0 < len(found[0]) < len(rules) and 0 < len(found[1]) < len(facts)
        self.assertGreater(less, 200)

    def test_its_model_by_the_second_reckoning(self):
        for rules, facts in DRAWN[:60]:
            whole = reckoning.model(rules, facts)
            for kind in draws.KINDS:
                found = reckoning.model(*narrowed(rules, facts, kind))
                self.assertEqual({fact for fact in found if fact[0] == kind}, {fact for fact in whole if fact[0] == kind})


if __name__ == "__main__":
    unittest.main()
