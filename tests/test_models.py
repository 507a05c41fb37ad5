import random
import unittest

import draws
import reckoning
from rulehall.models import broken, kept, model, ranks
from rulehall.reading import read
from samples import facts_of, no, numbered, rule, yes


def edges(*pairs):
    return tuple(sorted(("edge", tuple(pair)) for pair in pairs))


PATHS = read("rule path A B if edge A B\nrule path A C if path A B and edge B C\n")[0]
LONG_AND_SHORT = read(
    "rule a if start\nrule b if a\nrule c if b\nrule goal if c\nrule goal if a\nrule end if goal and start\n"
)
LEVELS = read(
    "rule p A if n A and not q A\nrule q A if n A and not r A\nrule r A if n A and m A\nrule s if not p a and not p b\n"
    "fact m a\nfact n a\nfact n b\n"
)


class Case(unittest.TestCase):
    def told(self, rules, facts, *wanted):
        self.assertEqual(model(rules, facts), wanted)
        self.assertEqual(set(wanted), reckoning.model(rules, facts))

    def ranked(self, rules, facts, *wanted):
        self.assertEqual(ranks(rules, facts), wanted)
        self.assertEqual(dict(wanted), reckoning.ranks(rules, facts, reckoning.model(rules, facts)))

    def faulty(self, rules, facts, *wanted):
        self.assertEqual(broken(rules, facts), wanted)
        self.assertEqual(reckoning.broken(rules, facts), wanted)
        self.assertIs(kept(rules, facts), not wanted)


class Models(Case):
    def test_neither_rules_nor_facts(self):
        self.told((), ())

    def test_no_rules(self):
        facts = (("p", ()), ("q", ("a",)), ("q", ("b",)))
        self.told((), facts, *facts)

    def test_no_facts(self):
        self.told((rule("p", ("A",), yes("q", "A")),), ())
        self.told((rule("p", ("a",)),), (), ("p", ("a",)))
        self.told((rule("p", (), no("q")),), (), ("p", ()))
        self.told((rule("p", (), yes("p")),), ())
        self.told((rule("p", (), yes("q")), rule("q", (), yes("p"))), ())

    def test_rules_without_a_body(self):
        rules = (rule("q", ("b",)), rule("p", ()), rule("q", ("a",)))
        self.told(rules, (), ("p", ()), ("q", ("a",)), ("q", ("b",)))
        self.told(rules + (rule("r", ("A",), yes("q", "A")),), (),
                  ("p", ()), ("q", ("a",)), ("q", ("b",)), ("r", ("a",)), ("r", ("b",)))

    def test_recursion(self):
        self.told(PATHS, edges("ab", "bc"), ("edge", ("a", "b")), ("edge", ("b", "c")),
                  ("path", ("a", "b")), ("path", ("a", "c")), ("path", ("b", "c")))
        self.told(PATHS, edges("ab", "ba"), ("edge", ("a", "b")), ("edge", ("b", "a")),
                  ("path", ("a", "a")), ("path", ("a", "b")), ("path", ("b", "a")), ("path", ("b", "b")))

    def test_two_kinds_that_hang_on_one_another(self):
        rules = read("rule even A if zero A\nrule odd B if even A and next A B\nrule even B if odd A and next A B\n")[0]
        facts = (("next", ("a", "b")), ("next", ("b", "c")), ("next", ("c", "d")), ("zero", ("a",)))
        even, odd = [("even", ("a",)), ("even", ("c",))], [("odd", ("b",)), ("odd", ("d",))]
        self.told(rules, facts, *even, *facts[:3], *odd, facts[3])

    def test_several_levels(self):
        rules, facts = LEVELS
        self.told(rules, facts, *facts, ("p", ("a",)), ("q", ("b",)), ("r", ("a",)))
        self.told(rules[::-1], facts, *facts, ("p", ("a",)), ("q", ("b",)), ("r", ("a",)))
        self.told(rules, facts[1:], *facts[1:], ("q", ("a",)), ("q", ("b",)), ("s", ()))

    def test_a_chain_of_absences(self):
        kinds = "abcdefghijklmnopq"
        rules = tuple(rule(above, (), no(kind)) for kind, above in zip(kinds, kinds[1:]))
        self.told(rules, (), *[(kind, ()) for kind in kinds[1::2]])
        self.told(rules[::-1], (), *[(kind, ()) for kind in kinds[1::2]])
        self.told(rules, (("a", ()),), *[(kind, ()) for kind in kinds[::2]])
        self.told(rules, (("b", ()), ("c", ())), ("b", ()), ("c", ()), *[(kind, ()) for kind in kinds[4::2]])

    def test_absence_of_what_comes_by_recursion(self):
        rules = PATHS + (rule("apart", ("A", "B"), yes("node", "A"), yes("node", "B"), no("path", "A", "B")),)
        facts = edges("ab", "bc") + (("node", ("a",)), ("node", ("c",)))
        apart = [("apart", pair) for pair in (("a", "a"), ("c", "a"), ("c", "c"))]
        paths = [("path", pair) for pair in (("a", "b"), ("a", "c"), ("b", "c"))]
        self.told(rules, facts, *apart, *facts, *paths)

    def test_a_given_fact_that_a_rule_also_gives(self):
        rules = (rule("p", ("A",), yes("q", "A")), rule("r", ()))
        self.told(rules, (("p", ("a",)), ("q", ("a",)), ("r", ())), ("p", ("a",)), ("q", ("a",)), ("r", ()))

    def test_given_facts_of_heads_and_of_kinds_that_stand_nowhere(self):
        rules = (rule("p", ("A",), yes("q", "A"), no("r", "A")), rule("r", ("A",), yes("s", "A")))
        self.told(rules, (("q", ("a",)), ("q", ("b",)), ("r", ("a",)), ("x", ("y",))),
                  ("p", ("b",)), ("q", ("a",)), ("q", ("b",)), ("r", ("a",)), ("x", ("y",)))

    def test_a_given_fact_of_a_greater_level_is_there_from_the_first(self):
        rules = (rule("p", (), no("q")), rule("q", (), no("r")), rule("t", (), yes("p"), no("s")))
        self.told(rules, (("p", ()),), ("p", ()), ("q", ()), ("t", ()))

    def test_words_in_rules(self):
        rules = (rule("p", ("z", "A"), yes("q", "a", "A")), rule("r", ("A",), yes("p", "A", "b")))
        self.told(rules, (("q", ("a", "b")), ("q", ("b", "c"))),
                  ("p", ("z", "b")), ("q", ("a", "b")), ("q", ("b", "c")), ("r", ("z",)))

    def test_a_variable_twice(self):
        rules = (rule("p", ("A", "A"), yes("q", "A")), rule("r", ("A",), yes("t", "A", "A")))
        self.told(rules, (("q", ("a",)), ("t", ("a", "b")), ("t", ("b", "b"))),
                  ("p", ("a", "a")), ("q", ("a",)), ("r", ("b",)), ("t", ("a", "b")), ("t", ("b", "b")))

    def test_more_than_sixty_four_facts(self):
        names = numbered(20)
        facts = edges(*zip(names, names[1:]))
        found = model(PATHS, facts)
        wanted = [("path", (one, other)) for place, one in enumerate(names) for other in names[place + 1:]]
        self.assertEqual(found, tuple(sorted(facts + tuple(wanted))))
        self.assertEqual(len(found), 19 + 190)

    def test_as_many_facts_as_may_be(self):
        names = numbered(65)
        facts = edges(*zip(names, names[1:]))
        self.assertEqual(len(facts), 64)
        doubled = (PATHS[0], rule("path", ("A", "C"), yes("path", "A", "B"), yes("path", "B", "C")))
        self.assertEqual(len(model(PATHS, facts)), 64 + 65 * 64 // 2)
        self.assertEqual(model(PATHS, facts), model(doubled, facts))
        self.assertEqual(max(rank for fact, rank in ranks(PATHS, facts)), 64)
        self.assertEqual(max(rank for fact, rank in ranks(doubled, facts)), 7)

    def test_variables_that_the_head_does_not_need(self):
        rules = (rule("q", ("A",), yes("p", "A"), yes("p", "B"), yes("p", "C"), yes("p", "D")),)
        self.assertEqual(len(model(rules, facts_of(64))), 128)

    def test_more_than_the_bounds(self):
        rules = tuple(rule("p", (name,)) for name in numbered(20))
        self.assertEqual(len(model(rules, ())), 20)
        self.assertEqual(len(model((rule("q", ("A",), yes("p", "A")),), facts_of(70))), 140)
        wide = rule("wide", ("A", "B", "C", "D", "E"), *[yes("p", name) for name in "ABCDE"])
        self.assertEqual(len(model((wide,), facts_of(2))), 2 + 2 ** 5)


class DrawnModels(Case):
    def test_as_level_by_level_over_all_words(self):
        grown = 0
        for rules, facts in draws.pairs(41, 400):
            found = model(rules, facts)
            self.assertEqual(found, tuple(sorted(reckoning.model(rules, facts))), (rules, facts))
            grown += len(found) > len(facts) + 2
        self.assertGreater(grown, 100)

    def test_as_over_rules_in_no_order_of_kinds(self):
        source = random.Random(42)
        asked = 0
        for turn in range(300):
            rules, facts = draws.drawn_pair(source, with_levels=False)
            if reckoning.raised_levels(rules) is not None:
                self.assertEqual(model(rules, facts), tuple(sorted(reckoning.model(rules, facts))), (rules, facts))
                asked += 1
        self.assertGreater(asked, 50)

    def test_rules_without_no_literals(self):
        for rules, facts in draws.pairs(43, 150, with_no=False):
            self.assertEqual(model(rules, facts), tuple(sorted(reckoning.model(rules, facts))), (rules, facts))

    def test_the_form(self):
        for rules, facts in draws.pairs(44, 80):
            found = model(rules, facts)
            self.assertIs(type(found), tuple)
            self.assertEqual(list(found), sorted(set(found)))
            self.assertTrue(all(type(fact) is tuple and type(fact[1]) is tuple for fact in found))


class Ranks(Case):
    def test_nothing(self):
        self.ranked((), ())

    def test_given_facts(self):
        facts = (("p", ()), ("q", ("a",)))
        self.ranked((), facts, *[(fact, 0) for fact in facts])

    def test_given_facts_that_a_rule_gives_too(self):
        rules = (rule("p", ()), rule("q", ("A",), yes("r", "A")), rule("s", (), yes("p"), yes("q", "a")))
        self.ranked(rules, (("p", ()), ("q", ("a",)), ("r", ("a",)), ("r", ("b",))),
                    (("p", ()), 0), (("q", ("a",)), 0), (("q", ("b",)), 1), (("r", ("a",)), 0), (("r", ("b",)), 0),
                    (("s", ()), 1))

    def test_rules_without_yes_literals(self):
        self.ranked((rule("p", ()), rule("q", ("a",), no("r"))), (), (("p", ()), 1), (("q", ("a",)), 1))
        self.ranked((rule("p", (), yes("q"), no("r")), rule("q", ())), (), (("p", ()), 2), (("q", ()), 1))

    def test_no_literals_do_not_count(self):
        rules = read("rule a\nrule b if a\nrule c if b\nrule d if c and x\nrule e if not d\n")[0]
        self.ranked(rules, (), (("a", ()), 1), (("b", ()), 2), (("c", ()), 3), (("e", ()), 1))

    def test_the_greatest_of_the_yes_literals(self):
        rules = read("rule a if x\nrule b if a\nrule c if x and b and a\nrule d if b and x\n")[0]
        self.ranked(rules, (("x", ()),),
                    (("a", ()), 1), (("b", ()), 2), (("c", ()), 3), (("d", ()), 3), (("x", ()), 0))

    def test_the_least_of_the_rules_whichever_stands_first(self):
        rules = LONG_AND_SHORT[0]
        wanted = tuple(((kind, ()), rank) for kind, rank in (
            ("a", 1), ("b", 2), ("c", 3), ("end", 3), ("goal", 2), ("start", 0)))
        for turn in range(len(rules)):
            self.ranked(rules[turn:] + rules[:turn], (("start", ()),), *wanted)
            self.ranked((rules[turn:] + rules[:turn])[::-1], (("start", ()),), *wanted)

    def test_the_least_of_the_ways(self):
        facts = edges("ab", "bc", "cd", "ad")
        found = dict(ranks(PATHS, facts))
        self.assertEqual(found[("path", ("a", "d"))], 1)
        self.assertEqual(found[("path", ("a", "c"))], 2)
        found = dict(ranks(PATHS, edges("ab", "bc", "cd")))
        self.assertEqual(found[("path", ("a", "d"))], 3)

    def test_a_way_that_a_no_literal_bars_does_not_count(self):
        rules = read("rule a if x\nrule b if a\nrule goal if x and not y\nrule goal if b\nrule y if x\n")[0]
        self.ranked(rules, (("x", ()),),
                    (("a", ()), 1), (("b", ()), 2), (("goal", ()), 3), (("x", ()), 0), (("y", ()), 1))

    def test_a_short_way_by_a_kind_of_a_greater_level(self):
        rules = read("rule goal if not z and x\nrule goal if b\nrule b if a\nrule a if x\nrule z if zz\n")[0]
        self.ranked(rules, (("x", ()),), (("a", ()), 1), (("b", ()), 2), (("goal", ()), 1), (("x", ()), 0))

    def test_drawn(self):
        deep = 0
        for rules, facts in draws.pairs(45, 600):
            found = ranks(rules, facts)
            held = reckoning.model(rules, facts)
            self.assertEqual(found, tuple(sorted(reckoning.ranks(rules, facts, held).items())), (rules, facts))
            self.assertEqual(tuple(fact for fact, rank in found), model(rules, facts))
            deep += max((rank for fact, rank in found), default=0) > 2
        self.assertGreater(deep, 30)

    def test_the_form(self):
        for rules, facts in draws.pairs(46, 80):
            found = ranks(rules, facts)
            self.assertIs(type(found), tuple)
            self.assertEqual(list(found), sorted(set(found)))
            self.assertTrue(all(type(pair) is tuple and type(pair[1]) is int for pair in found))


class KeptAndBroken(Case):
    def test_nothing(self):
        self.faulty((), ())
        self.faulty((), facts_of(3))
        self.faulty(PATHS, ())

    def test_rules_without_a_body(self):
        self.faulty((rule("p", ()),), (), (0, ("p", ())))
        self.faulty((rule("p", ()),), (("p", ()),))

    def test_a_body_that_holds_and_a_head_that_is_not_there(self):
        self.faulty(PATHS, edges("ab"), (0, ("path", ("a", "b"))))
        self.faulty(PATHS, edges("ab", "bc") + (("path", ("a", "b")),),
                    (0, ("path", ("b", "c"))), (1, ("path", ("a", "c"))))

    def test_facts_that_are_no_model_and_yet_keep_the_rules(self):
        self.faulty(PATHS, (("path", ("a", "b")),))
        self.faulty((rule("p", (), yes("q")),), (("p", ()),))
        self.faulty((rule("p", (), no("q")),), (("q", ()),))

    def test_no_literals_look_among_these_facts(self):
        rules = read("rule p if not q\nrule q if not r\n")[0]
        self.faulty(rules, (), (0, ("p", ())), (1, ("q", ())))
        self.faulty(rules, (("p", ()),), (1, ("q", ())))
        self.faulty(rules, (("q", ()),))
        self.faulty(rules, (("r", ()),), (0, ("p", ())))

    def test_one_step_alone(self):
        rules = read("rule a if x\nrule b if a\n")[0]
        self.faulty(rules, (("x", ()),), (0, ("a", ())))
        self.faulty(rules, (("a", ()), ("x", ())), (1, ("b", ())))

    def test_several_ways_to_one_head(self):
        facts = edges("ab", "ac", "bd", "cd")
        rules = (rule("meet", ("A", "C"), yes("edge", "A", "B"), yes("edge", "B", "C")),)
        self.faulty(rules, facts, (0, ("meet", ("a", "d"))))
        self.faulty((rule("on", (), yes("edge", "A", "B")),), facts, (0, ("on", ())))

    def test_each_rule_has_its_own_number(self):
        one, other = rule("p", ("A",), yes("q", "A")), rule("p", ("b",))
        facts = (("q", ("a",)), ("q", ("b",)))
        self.faulty((one, other, one), facts,
                    (0, ("p", ("a",))), (0, ("p", ("b",))), (1, ("p", ("b",))), (2, ("p", ("a",))), (2, ("p", ("b",))))

    def test_rising_by_numbers_first(self):
        rules = tuple(rule(kind, ()) for kind in "zyxwvutsrqpo")
        self.faulty(rules, (), *[(number, (kind, ())) for number, kind in enumerate("zyxwvutsrqpo")])

    def test_more_than_sixty_four_facts(self):
        names = numbered(20)
        facts = edges(*zip(names, names[1:]))
        whole = model(PATHS, facts)
        self.assertGreater(len(whole), 64)
        self.faulty(PATHS, whole)
        for place in (0, 30, 100, len(whole) - 1):
            rest = whole[:place] + whole[place + 1:]
            self.assertEqual(broken(PATHS, rest), reckoning.broken(PATHS, rest))
            self.assertIs(kept(PATHS, rest), not broken(PATHS, rest))
        self.assertIs(kept(PATHS, whole[:-1]), False)
        self.assertEqual(len(broken((rule("q", ("A",), yes("p", "A")),), facts_of(70))), 70)

    def test_drawn(self):
        source = random.Random(47)
        faulty = 0
        for rules, facts in draws.pairs(48, 300):
            whole = model(rules, facts)
            self.faulty(rules, whole)
            self.faulty(rules, facts, *reckoning.broken(rules, facts))
            some = tuple(fact for fact in whole if source.random() < 0.7)
            self.faulty(rules, some, *reckoning.broken(rules, some))
            faulty += bool(broken(rules, some))
        self.assertGreater(faulty, 50)

    def test_the_form(self):
        for rules, facts in draws.pairs(49, 80):
            found = broken(rules, facts)
            self.assertIs(type(found), tuple)
            self.assertEqual(list(found), sorted(set(found)))
            self.assertTrue(all(type(pair) is tuple and type(pair[0]) is int for pair in found))


if __name__ == "__main__":
    unittest.main()
