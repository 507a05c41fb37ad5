import random
import unittest

import draws
import reckoning
from rulehall.ways import ways
from samples import facts_of, no, numbered, rule, yes

EDGES = (
    ("edge", ("a", "b")), ("edge", ("b", "b")), ("edge", ("b", "c")), ("node", ("a",)), ("node", ("c",)), ("on", ()),
)


class Case(unittest.TestCase):
    def told(self, one, facts, *wanted):
        self.assertEqual(ways(one, facts), wanted)
        self.assertEqual(ways(one, facts), reckoning.ways(one, facts))


class Ways(Case):
    def test_without_variables_and_without_a_body(self):
        self.told(rule("p", ()), (), ())
        self.told(rule("p", ("a", "b")), EDGES, ())

    def test_without_variables_and_with_a_body(self):
        self.told(rule("p", (), yes("on")), EDGES, ())
        self.told(rule("p", (), yes("off")), EDGES)
        self.told(rule("p", (), no("on")), EDGES)
        self.told(rule("p", (), no("off")), EDGES, ())
        self.told(rule("p", (), yes("edge", "a", "b"), no("edge", "b", "a")), EDGES, ())
        self.told(rule("p", (), yes("edge", "a", "b"), no("edge", "b", "c")), EDGES)
        self.told(rule("p", (), yes("on"), yes("on"), yes("node", "a"), no("node", "b")), EDGES, ())
        self.told(rule("p", (), yes("on")), ())
        self.told(rule("p", (), no("on")), (), ())

    def test_a_body_that_holds_though_the_head_does_not(self):
        self.told(rule("nowhere", ("nobody",), yes("on")), EDGES, ())
        self.told(rule("on", (), yes("on")), EDGES, ())

    def test_one_variable(self):
        self.told(rule("p", ("A",), yes("node", "A")), EDGES, (("A", "a"),), (("A", "c"),))
        self.told(rule("p", (), yes("node", "A")), EDGES, (("A", "a"),), (("A", "c"),))
        self.told(rule("p", (), yes("thing", "A")), EDGES)

    def test_several_variables(self):
        self.told(
            rule("p", (), yes("edge", "X", "Y")), EDGES,
            (("X", "a"), ("Y", "b")), (("X", "b"), ("Y", "b")), (("X", "b"), ("Y", "c")),
        )

    def test_pairs_rise_by_variables_and_ways_by_pairs(self):
        self.told(
            rule("p", (), yes("edge", "Y", "X")), EDGES,
            (("X", "b"), ("Y", "a")), (("X", "b"), ("Y", "b")), (("X", "c"), ("Y", "b")),
        )
        facts = (("p", ("a", "c", "b")), ("p", ("b", "a", "c")))
        self.told(
            rule("q", (), yes("p", "B", "A1", "A")), facts,
            (("A", "b"), ("A1", "c"), ("B", "a")), (("A", "c"), ("A1", "a"), ("B", "b")),
        )

    def test_a_variable_twice_in_an_atom(self):
        self.told(rule("p", ("A",), yes("edge", "A", "A")), EDGES, (("A", "b"),))
        facts = (("p", ("a", "a", "b")), ("p", ("a", "b", "a")), ("p", ("b", "b", "b")), ("p", ("c", "a", "a")))
        self.told(rule("q", (), yes("p", "A", "A", "B")), facts, (("A", "a"), ("B", "b")), (("A", "b"), ("B", "b")))
        self.told(rule("q", (), yes("p", "A", "B", "A")), facts, (("A", "a"), ("B", "b")), (("A", "b"), ("B", "b")))
        self.told(rule("q", (), yes("p", "B", "A", "A")), facts, (("A", "a"), ("B", "c")), (("A", "b"), ("B", "b")))
        self.told(rule("q", (), yes("p", "A", "A", "A")), facts, (("A", "b"),))

    def test_a_variable_in_several_atoms(self):
        self.told(
            rule("p", ("A", "C"), yes("edge", "A", "B"), yes("edge", "B", "C")), EDGES,
            (("A", "a"), ("B", "b"), ("C", "b")), (("A", "a"), ("B", "b"), ("C", "c")),
            (("A", "b"), ("B", "b"), ("C", "b")), (("A", "b"), ("B", "b"), ("C", "c")),
        )
        self.told(rule("p", (), yes("edge", "A", "B"), yes("node", "B")), EDGES, (("A", "b"), ("B", "c")))
        self.told(rule("p", (), yes("edge", "A", "B"), yes("edge", "B", "A")), EDGES, (("A", "b"), ("B", "b")))

    def test_variables_that_do_not_meet(self):
        self.told(
            rule("p", ("A",), yes("node", "A"), yes("node", "B")), EDGES,
            (("A", "a"), ("B", "a")), (("A", "a"), ("B", "c")), (("A", "c"), ("B", "a")), (("A", "c"), ("B", "c")),
        )

    def test_the_same_literal_twice(self):
        self.told(rule("p", (), yes("node", "A"), yes("node", "A")), EDGES, (("A", "a"),), (("A", "c"),))

    def test_words_in_atoms(self):
        self.told(rule("p", ("A",), yes("edge", "b", "A")), EDGES, (("A", "b"),), (("A", "c"),))
        self.told(rule("p", ("A",), yes("edge", "A", "b")), EDGES, (("A", "a"),), (("A", "b"),))
        self.told(rule("p", ("A",), yes("edge", "A", "d")), EDGES)
        self.told(rule("p", ("z", "A"), yes("edge", "a", "A"), yes("edge", "b", "A")), EDGES, (("A", "b"),))

    def test_no_literals(self):
        self.told(rule("p", ("A",), yes("node", "A"), no("edge", "A", "b")), EDGES, (("A", "c"),))
        self.told(rule("p", ("A",), no("edge", "A", "b"), yes("node", "A")), EDGES, (("A", "c"),))
        self.told(rule("p", ("A",), yes("node", "A"), no("node", "A")), EDGES)
        self.told(rule("p", ("A",), yes("node", "A"), no("on")), EDGES)
        self.told(rule("p", ("A",), yes("node", "A"), no("edge", "A", "b"), no("node", "c")), EDGES)
        self.told(rule("p", (), yes("edge", "A", "B"), no("edge", "B", "A")), EDGES,
                  (("A", "a"), ("B", "b")), (("A", "b"), ("B", "c")))

    def test_a_rule_that_denies_itself_has_ways_too(self):
        self.told(rule("node", ("b",), no("node", "b")), EDGES, ())
        self.told(rule("node", ("a",), no("node", "a")), EDGES)

    def test_ways_that_differ_only_in_what_the_head_leaves_out(self):
        facts = facts_of(5)
        self.assertEqual(len(ways(rule("q", (), yes("p", "A"), yes("p", "B"), yes("p", "C")), facts)), 125)

    def test_facts_of_other_kinds_and_numbers_of_terms(self):
        self.told(rule("p", (), yes("node", "A")), (("node", ("a",)), ("nodes", ("b",))), (("A", "a"),))
        self.told(rule("p", (), yes("a", "A")), (("a", ("a",)), ("b", ("c",))), (("A", "a"),))
        self.assertEqual(ways(rule("p", ("A",), yes("p", "A", "B")), (("p", ("a", "b")),)), ((("A", "a"), ("B", "b")),))

    def test_more_facts_than_may_be(self):
        facts = tuple(sorted(("edge", (one, other)) for one in numbered(12) for other in numbered(12)))
        found = ways(rule("p", ("A", "C"), yes("edge", "A", "B"), yes("edge", "B", "C")), facts)
        self.assertEqual(len(found), 12 ** 3)
        self.assertEqual(list(found), sorted(set(found)))


class DrawnWays(Case):
    def test_as_by_trying_all_words(self):
        source = random.Random(31)
        found = 0
        for turn in range(700):
            one = draws.drawn_rule(source, source.choice(draws.KINDS), draws.KINDS, draws.KINDS)
            facts = draws.drawn_facts(source, most=40)
            told = ways(one, facts)
            self.assertEqual(told, reckoning.ways(one, facts), (one, facts))
            found += len(told) > 1
        self.assertGreater(found, 100)

    def test_the_form(self):
        source = random.Random(32)
        for turn in range(300):
            one = draws.drawn_rule(source, "p", draws.KINDS, draws.KINDS)
            told = ways(one, draws.drawn_facts(source, most=40))
            self.assertIs(type(told), tuple)
            self.assertEqual(list(told), sorted(set(told)))
            for way in told:
                self.assertIs(type(way), tuple)
                self.assertEqual([pair[0] for pair in way], reckoning.variables_in(one))
                self.assertTrue(all(type(pair) is tuple and len(pair) == 2 for pair in way))

    def test_the_order_of_the_body_is_free(self):
        source = random.Random(33)
        for turn in range(200):
            one = draws.drawn_rule(source, "p", draws.KINDS, draws.KINDS)
            facts = draws.drawn_facts(source, most=40)
            self.assertEqual(ways(one, facts), ways((one[0], one[1][::-1]), facts))


if __name__ == "__main__":
    unittest.main()
