import random
import unittest

import draws
import reckoning
from rulehall.errors import HallError, NoReason
from rulehall.models import model, ranks
from rulehall.reading import read
from rulehall.reasons import accepted, depth, reason_of
from samples import JUNK, changed, deep, no, numbered, part_at, places, put_at, rule, yes

PATHS, EDGES = read(
    "rule path A B if edge A B\nrule path A C if path A B and edge B C\nrule far A C if path A C and not edge A C\n"
    "rule lone\nfact edge a b\nfact edge b c\nfact edge c d\n"
)
EDGE = {fact[1][0] + fact[1][1]: fact for fact in EDGES}
PATH = {pair: ("path", tuple(pair)) for pair in ("ab", "ac", "ad", "bc", "bd", "cd")}
FAR = {pair: ("far", tuple(pair)) for pair in ("ab", "ac", "ad", "bd")}


def given(fact):
    return ("given", fact)


def by(number, fact, *lines):
    return ("by", number, fact, lines)


LONE = (by(3, ("lone", ())),)
ONE_EDGE = (given(EDGE["ab"]),)
ONE_PATH = (given(EDGE["ab"]), by(0, PATH["ab"], 0))
TWO_PATHS = ONE_PATH + (given(EDGE["bc"]), by(1, PATH["ac"], 1, 2))
FAR_PATH = TWO_PATHS + (by(2, FAR["ac"], 3),)
TWICE = ONE_PATH + (by(0, PATH["ab"], 0), given(EDGE["ab"]), given(EDGE["bc"]), by(1, PATH["ac"], 2, 4))
IDLE = (given(EDGE["cd"]),) + LONE + (
    given(EDGE["ab"]), by(0, PATH["ab"], 2), given(EDGE["bc"]), by(1, PATH["ac"], 3, 4),
)
RIGHT = (LONE, ONE_EDGE, ONE_PATH, TWO_PATHS, FAR_PATH, TWICE, IDLE)


class Case(unittest.TestCase):
    def takes(self, rules, facts, *reasons):
        for reason in reasons:
            self.assertIs(accepted(rules, facts, reason), True, reason)

    def turns_down(self, rules, facts, *reasons):
        for reason in reasons:
            self.assertIs(accepted(rules, facts, reason), False, reason)

    def as_judged(self, judge, rules, facts, reasons):
        for reason in reasons:
            self.assertIs(accepted(rules, facts, reason), judge.accepts(reason), reason)


class RightReasons(Case):
    def test_right_reasons(self):
        self.takes(PATHS, EDGES, *RIGHT)

    def test_every_beginning_of_a_right_reason(self):
        for reason in RIGHT:
            self.takes(PATHS, EDGES, *[reason[:count] for count in range(1, len(reason) + 1)])

    def test_right_reasons_one_behind_the_other(self):
        self.takes(PATHS, EDGES, LONE + LONE, ONE_EDGE + ONE_EDGE, TWO_PATHS + LONE, TWO_PATHS + ONE_EDGE)

    def test_one_line_for_several_literals(self):
        rules = (rule("p", ("A",), yes("q", "A"), yes("q", "A")), rule("r", (), yes("q", "A"), yes("q", "B")))
        facts = (("q", ("a",)), ("q", ("b",)))
        start = (given(facts[0]), given(facts[1]), given(facts[0]))
        self.takes(rules, facts, start + (by(0, ("p", ("a",)), 0, 0),), start + (by(0, ("p", ("a",)), 0, 2),))
        self.takes(rules, facts, start + (by(1, ("r", ()), 0, 0),), start + (by(1, ("r", ()), 1, 0),))
        self.turns_down(rules, facts, start + (by(0, ("p", ("a",)), 0, 1),), start + (by(0, ("p", ("b",)), 0, 1),))

    def test_a_given_fact_told_by_a_rule(self):
        facts = EDGES + (PATH["ab"],)
        self.takes(PATHS, facts, ONE_PATH, (given(PATH["ab"]),))
        self.turns_down(PATHS, EDGES, (given(PATH["ab"]),))

    def test_lines_for_yes_literals_alone_and_in_order(self):
        rules = (rule("p", ("A", "B"), no("x", "A"), yes("q", "A"), no("x", "B"), yes("q", "B")),)
        facts = (("q", ("a",)), ("q", ("b",)), ("x", ("c",)))
        start = (given(facts[0]), given(facts[1]))
        self.takes(rules, facts, start + (by(0, ("p", ("a", "b")), 0, 1),), start + (by(0, ("p", ("b", "a")), 1, 0),))
        self.turns_down(
            rules, facts,
            start + (by(0, ("p", ("a", "b")), 1, 0),), start + (by(0, ("p", ("b", "a")), 0, 1),),
            start + (by(0, ("p", ("a", "b")), 0, 0, 1, 1),),
            start + (given(facts[2]), by(0, ("p", ("a", "b")), 2, 0, 2, 1)),
        )

    def test_longer_words_and_more_terms_than_may_be(self):
        facts = (("abcdefghijk", ("lmnopqrstuv", "a", "b", "c", "d")),)
        rules = (rule("p", ("A", "B", "C", "D", "E"), yes("abcdefghijk", "A", "B", "C", "D", "E")),)
        reason = (given(facts[0]), by(0, ("p", facts[0][1]), 0))
        self.takes(rules, facts, reason)
        self.assertEqual(reason_of(rules, facts, ("p", facts[0][1])), reason)


class SpoiltReasons(Case):
    def test_nothing_and_other_things(self):
        self.turns_down(PATHS, EDGES, (), [], None, True, False, 0, 1, -1, 7, "", "given", deep(tuple), deep(list))
        self.turns_down(PATHS, EDGES, *JUNK)

    def test_other_things_in_the_place_of_a_line(self):
        for junk in JUNK:
            self.turns_down(PATHS, EDGES, (junk,), ONE_PATH + (junk,), (junk,) + ONE_PATH, [junk])

    def test_lists(self):
        for reason in RIGHT:
            for path in places(reason):
                part = part_at(reason, path)
                if isinstance(part, tuple):
                    self.turns_down(PATHS, EDGES, put_at(reason, path, list(part)))

    def test_another_fact(self):
        self.turns_down(
            PATHS, EDGES, (given(EDGE["ab"]), by(0, PATH["ac"], 0)), (given(EDGE["ab"]), by(0, EDGE["ab"], 0)),
            (given(EDGE["ab"]), by(0, FAR["ab"], 0)), TWO_PATHS[:3] + (by(1, PATH["ad"], 1, 2),),
            (by(3, ("lone", ("a",))),), (by(3, ("alone", ())),),
            (given(EDGE["ab"]), by(0, ("path", ("a", "b", "c")), 0)),
            (given(EDGE["ab"]), by(0, ("path", ("A", "B")), 0)), (given(EDGE["ab"]), by(0, ("path", ("a",)), 0)),
        )

    def test_a_given_line_whose_fact_is_not_given(self):
        self.turns_down(
            PATHS, EDGES, (given(PATH["ab"]),), (given(("lone", ())),), (given(("edge", ("a", "c"))),),
            (given(("edge", ("a",))),), (given(("edge", ("A", "B"))),), (given(("nowhere", ())),),
            (given(PATH["ab"]), given(EDGE["bc"]), by(1, PATH["ac"], 0, 1)), ONE_PATH + (given(PATH["ab"]),),
        )

    def test_another_rules_number(self):
        for number in (1, 2, 3, 4, 5, -1, -3, -4, -5, 10 ** 30, True, False, None, "0", (0,), [0], ()):
            self.turns_down(PATHS, EDGES, (given(EDGE["ab"]), by(number, PATH["ab"], 0)))
        for number in (0, 1, 2, 4, 5, -1, -2, True, None, "3", (3,), [3]):
            self.turns_down(PATHS, EDGES, (by(number, ("lone", ())),))
        self.turns_down((rule("p", ()), rule("q", ())), (), (by(True, ("q", ())),), (by(False, ("p", ())),))
        self.takes((rule("p", ()), rule("q", ())), (), (by(1, ("q", ())),), (by(0, ("p", ())),))

    def test_another_lines_number(self):
        for number in (1, 2, 3, 4, -1, -2, 10 ** 30, -10 ** 30, True, False, None, "0", (0,), [0], ()):
            self.turns_down(PATHS, EDGES, (given(EDGE["ab"]), by(0, PATH["ab"], number)))
        start = (given(EDGE["bc"]), given(EDGE["ab"]), by(0, PATH["ab"], 1))
        self.takes(PATHS, EDGES, start)
        self.turns_down(PATHS, EDGES, start[:2] + (by(0, PATH["ab"], True),))
        # Counted from the end these would be the right lines.
        self.turns_down(PATHS, EDGES, start[:2] + (by(0, PATH["ab"], -1),), start[:2] + (by(0, PATH["ab"], -2),))

    def test_a_line_of_itself_or_behind(self):
        rules = (rule("p", (), yes("p")), rule("p", (), yes("q")), rule("q", (), yes("p")))
        self.turns_down(
            rules, (), (by(0, ("p", ()), 0),), (by(1, ("p", ()), 1), by(2, ("q", ()), 0)),
            (by(2, ("q", ()), 1), by(1, ("p", ()), 0)),
        )
        self.turns_down(PATHS, EDGES, (by(0, PATH["ab"], 1), given(EDGE["ab"])), ONE_PATH[::-1], TWO_PATHS[::-1])
        self.turns_down(
            PATHS, EDGES, (given(EDGE["ab"]), by(1, PATH["ac"], 3, 2), given(EDGE["bc"]), by(0, PATH["ab"], 0)),
        )

    def test_too_few_or_too_many_lines(self):
        self.turns_down(
            PATHS, EDGES, (given(EDGE["ab"]), by(0, PATH["ab"])), (given(EDGE["ab"]), by(0, PATH["ab"], 0, 0)),
            TWO_PATHS[:3] + (by(1, PATH["ac"], 1),), TWO_PATHS[:3] + (by(1, PATH["ac"]),),
            TWO_PATHS[:3] + (by(1, PATH["ac"], 1, 2, 2),), TWO_PATHS[:3] + (by(1, PATH["ac"], 1, 2, 0),),
            (given(EDGE["ab"]), by(3, ("lone", ()), 0)),
        )

    def test_lines_in_another_order(self):
        self.turns_down(PATHS, EDGES, TWO_PATHS[:3] + (by(1, PATH["ac"], 2, 1),))

    def test_lines_of_other_lengths_or_other_first_words(self):
        fact = EDGE["ab"]
        self.turns_down(
            PATHS, EDGES, (("given",),), (("given", fact, ()),), (("given", fact, fact),), (("by", 3, ("lone", ())),),
            (("by", 3),), (("by",),), (("by", 3, ("lone", ()), (), ()),), (("by", ("lone", ()), ()),), (("by", fact),),
            (("Given", fact),), (("", fact),), (("yes", fact),), ((None, fact),), ((0, fact),), ((("given",), fact),),
            ((["given"], fact),), (("give", fact),), (("given ", fact),), (("By", 3, ("lone", ()), ()),),
            (("given", 3, ("lone", ()), ()),), (("no", 3, ("lone", ()), ()),), ((None, 3, ("lone", ()), ()),), ((),),
            (fact,), fact, ("given", fact), by(3, ("lone", ())), ("given",), "given",
        )

    def test_no_literals_whose_atom_is_in_the_model(self):
        start = (given(EDGE["ab"]), by(0, PATH["ab"], 0))
        self.turns_down(PATHS, EDGES, start + (by(2, FAR["ab"], 1),))
        rules = read("rule p if not q\nrule q if r\nrule s A if t A and not u A\nrule u A if t A and v A\n")[0]
        facts = (("t", ("a",)), ("t", ("b",)), ("v", ("a",)))
        self.takes(rules, facts, (by(0, ("p", ())),), (given(facts[1]), by(2, ("s", ("b",)), 0)))
        self.turns_down(rules, facts, (given(facts[0]), by(2, ("s", ("a",)), 0)))
        # What the no literal denies follows, though no line tells of it.
        self.turns_down(rules, (("r", ()),), (by(0, ("p", ())),), (given(("r", ())), by(0, ("p", ()))))
        self.turns_down(rules, (("q", ()),), (by(0, ("p", ())),))

    def test_a_variable_that_would_need_two_words(self):
        rules = (
            rule("p", ("A",), yes("q", "A", "A")), rule("r", ("A",), yes("q", "A", "B"), yes("q", "B", "A")),
            rule("s", ("A", "A"), yes("t", "A")), rule("w", ("A",), yes("q", "A", "b")),
        )
        facts = (("q", ("a", "b")), ("q", ("b", "b")), ("q", ("b", "c")), ("t", ("a",)))
        start = tuple(given(fact) for fact in facts)
        self.takes(
            rules, facts, start + (by(0, ("p", ("b",)), 1),), start + (by(1, ("r", ("b",)), 1, 1),),
            start + (by(2, ("s", ("a", "a")), 3),), start + (by(3, ("w", ("a",)), 0),),
        )
        self.turns_down(
            rules, facts, start + (by(0, ("p", ("a",)), 0),), start + (by(0, ("p", ("b",)), 0),),
            start + (by(0, ("p", ("b",)), 2),), start + (by(1, ("r", ("a",)), 0, 1),),
            start + (by(1, ("r", ("a",)), 0, 2),),
            start + (by(2, ("s", ("a", "b")), 3),), start + (by(3, ("w", ("b",)), 2),),
        )

    def test_a_line_of_another_kind_with_the_same_words(self):
        rules = (rule("p", ("A",), yes("q", "A")),)
        facts = (("q", ("a",)), ("r", ("a",)))
        self.turns_down(rules, facts, (given(facts[1]), by(0, ("p", ("a",)), 0)))
        wide = (("q", ("a",)), ("r", ("a", "b")))
        self.turns_down((rule("p", ("A",), yes("r", "A")),), wide, (given(wide[1]), by(0, ("p", ("a",)), 0)))

    def test_one_wrong_line_that_nothing_tells_of(self):
        for place in range(len(TWO_PATHS)):
            shifted = TWO_PATHS[:place] + (given(("nowhere", ())),) + tuple(
                line if line[0] == "given" else line[:3] + (tuple(told + (told >= place) for told in line[3]),)
                for line in TWO_PATHS[place:]
            )
            self.turns_down(PATHS, EDGES, shifted)
            self.takes(PATHS, EDGES, put_at(shifted, (place,), given(EDGE["cd"])))

    def test_each_change_as_judged(self):
        judge = reckoning.Judge(PATHS, EDGES)
        for reason in RIGHT:
            self.assertTrue(judge.accepts(reason))
            self.as_judged(judge, PATHS, EDGES, changed(reason))

    def test_each_number_as_judged(self):
        judge = reckoning.Judge(PATHS, EDGES)
        for reason in RIGHT:
            for path in places(reason):
                if isinstance(part_at(reason, path), int):
                    self.as_judged(judge, PATHS, EDGES, [put_at(reason, path, number) for number in range(-7, 9)])

    def test_each_word_as_judged(self):
        judge = reckoning.Judge(PATHS, EDGES)
        words = ("a", "b", "c", "d", "edge", "path", "far", "lone", "given", "by")
        for reason in RIGHT:
            for path in places(reason):
                if isinstance(part_at(reason, path), str):
                    self.as_judged(judge, PATHS, EDGES, [put_at(reason, path, word) for word in words])

    def test_all_short_reasons_as_judged(self):
        rules, facts = read(
            "rule p A if q A B and not r B\nrule r A if q A A\nrule p b if p a\nfact q a b\nfact q b b\n"
        )
        judge = reckoning.Judge(rules, facts)
        names = [("p", ("a",)), ("p", ("b",)), ("r", ("a",)), ("r", ("b",))]
        lines = [given(fact) for fact in facts + (names[0],)]
        lines += [by(number, fact, told) for number in range(3) for fact in names for told in range(2)]
        reasons = [(one,) for one in lines] + [(one, other) for one in lines for other in lines]
        reasons += [(given(facts[1]), one, other) for one in lines for other in lines]
        self.as_judged(judge, rules, facts, reasons)


class DrawnReasons(Case):
    def test_accepted_ones(self):
        source = random.Random(51)
        deepest = 0
        for rules, facts in draws.pairs(52, 150):
            for turn in range(4):
                reason = draws.drawn_reason(source, rules, facts, source.randint(1, 12))
                self.assertIs(accepted(rules, facts, reason), len(reason) > 0, reason)
                if reason:
                    self.assertEqual(depth(reason), reckoning.depth(reason))
                    deepest = max(deepest, depth(reason))
        self.assertGreater(deepest, 4)

    def test_with_one_part_from_elsewhere(self):
        source = random.Random(53)
        taken = turned_down = 0
        for rules, facts in draws.pairs(54, 150):
            reason = draws.drawn_reason(source, rules, facts, 6)
            if not reason:
                continue
            judge = reckoning.Judge(rules, facts)
            for turn in range(30):
                path, other = source.choice(places(reason)), source.choice(places(reason))
                spoilt = put_at(reason, path, part_at(reason, other))
                wanted = judge.accepts(spoilt)
                self.assertIs(accepted(rules, facts, spoilt), wanted, spoilt)
                taken += wanted
                turned_down += not wanted
        self.assertGreater(min(taken, turned_down), 100)

    def test_with_other_facts_given(self):
        source = random.Random(55)
        for rules, facts in draws.pairs(56, 150):
            reason = draws.drawn_reason(source, rules, facts, 6)
            for fact in facts:
                fewer = tuple(one for one in facts if one != fact)
                judge = reckoning.Judge(rules, fewer)
                self.assertIs(accepted(rules, fewer, reason), judge.accepts(reason))


class ReasonOf(Case):
    def right(self, rules, facts, fact, rank):
        reason = reason_of(rules, facts, fact)
        told = [line[1] if line[0] == "given" else line[2] for line in reason]
        used = [number for line in reason if line[0] == "by" for number in line[3]]
        self.assertIs(accepted(rules, facts, reason), True, reason)
        self.assertEqual(depth(reason), rank, reason)
        self.assertEqual(reckoning.depth(reason), rank, reason)
        self.assertEqual(told[-1], fact)
        self.assertEqual(len(set(told)), len(told), reason)
        self.assertEqual(set(used), set(range(len(reason) - 1)), reason)
        return reason

    def test_a_given_fact(self):
        for fact in EDGES:
            self.assertEqual(reason_of(PATHS, EDGES, fact), (given(fact),))

    def test_a_given_fact_that_a_rule_also_gives(self):
        facts = EDGES + (PATH["ab"],)
        self.assertEqual(reason_of(PATHS, facts, PATH["ab"]), (given(PATH["ab"]),))
        self.assertEqual(reason_of((rule("p", ()),), (("p", ()),), ("p", ())), (given(("p", ())),))

    def test_a_rule_without_yes_literals(self):
        self.assertEqual(reason_of(PATHS, EDGES, ("lone", ())), LONE)
        self.assertEqual(reason_of((rule("p", (), no("q")),), (), ("p", ())), (by(0, ("p", ())),))

    def test_one_step(self):
        self.assertEqual(reason_of(PATHS, EDGES, PATH["ab"]), ONE_PATH)

    def test_every_fact_of_a_model(self):
        for fact, rank in ranks(PATHS, EDGES):
            self.right(PATHS, EDGES, fact, rank)

    def test_a_long_reason(self):
        names = numbered(65)
        facts = tuple(sorted(("edge", pair) for pair in zip(names, names[1:])))
        reason = self.right(PATHS, facts, ("path", (names[0], names[-1])), 64)
        self.assertEqual(len(reason), 128)

    def test_short_ways_ahead_of_long_ones(self):
        rules = read(
            "rule a if x\nrule b if a\nrule c if b\nrule goal if c\nrule goal if a\nrule end if goal and x\n"
        )[0]
        for turn in range(len(rules)):
            turned = rules[turn:] + rules[:turn]
            self.right(turned, (("x", ()),), ("goal", ()), 2)
            self.right(turned[::-1], (("x", ()),), ("end", ()), 3)

    def test_facts_that_are_needed_twice_at_each_of_many_steps(self):
        rules = read("rule on B if on A and on A and next A B\n")[0]
        names = numbered(64)
        facts = tuple(sorted(("next", pair) for pair in zip(names, names[1:]))) + (("on", (names[0],)),)
        # One by one along all the paths there would be far too many to walk.
        reason = reason_of(rules, facts, ("on", (names[-1],)))
        self.assertEqual(len(reason), 127)
        self.assertEqual(depth(reason), 63)
        self.takes(rules, facts, reason)

    def test_a_fact_that_several_lines_need(self):
        rules = read("rule a if x\nrule b if a and x\nrule c if a and b\nrule d if c and b and a and x\n")[0]
        reason = self.right(rules, (("x", ()),), ("d", ()), 4)
        self.assertEqual(len(reason), 5)

    def test_every_fact_of_many_models(self):
        asked = deepest = 0
        for rules, facts in draws.pairs(57, 250):
            for fact, rank in ranks(rules, facts):
                self.right(rules, facts, fact, rank)
                asked += rank > 0
                deepest = max(deepest, rank)
        self.assertGreater(asked, 300)
        self.assertGreater(deepest, 3)

    def test_the_form(self):
        for fact in model(PATHS, EDGES):
            reason = reason_of(PATHS, EDGES, fact)
            self.assertIs(type(reason), tuple)
            for line in reason:
                self.assertIs(type(line), tuple)
                self.assertTrue(line[0] == "given" or type(line[3]) is tuple and type(line[1]) is int)

    def test_facts_that_are_not_in_the_model(self):
        missing = (
            ("path", ("b", "a")), ("edge", ("a", "c")), FAR["ab"], ("far", ("a", "a")), ("nowhere", ()),
            ("nowhere", ("nobody",)), ("path", ("a", "nobody")), ("lone", ("a",)), ("path", ("a",)), ("edge", ()),
        )
        for wider in (NoReason, HallError, ValueError):
            for fact in missing:
                with self.assertRaises(wider):
                    reason_of(PATHS, EDGES, fact)
        for rules, facts in (((), ()), (PATHS, ()), ((), EDGES)):
            self.assertRaises(NoReason, reason_of, rules, facts, PATH["ab"])

    def test_facts_that_are_not_in_drawn_models(self):
        missing = 0
        for rules, facts in draws.pairs(58, 60):
            held = model(rules, facts)
            for fact in draws.base("pqrsu", "ab") + [("nowhere", ()), ("x", ("a",))]:
                if fact not in held:
                    self.assertRaises(NoReason, reason_of, rules, facts, fact)
                    missing += 1
        self.assertGreater(missing, 200)


class Depth(Case):
    def test_depths(self):
        for reason, wanted in zip(RIGHT, (1, 0, 1, 2, 3, 2, 2)):
            self.assertEqual(depth(reason), wanted)
            self.assertIs(type(depth(reason)), int)

    def test_as_deep_as_the_last_line(self):
        self.assertEqual(depth(FAR_PATH + ONE_EDGE), 0)
        self.assertEqual(depth(FAR_PATH + LONE), 1)
        self.assertEqual(depth(FAR_PATH + (by(0, PATH["ab"], 0),)), 1)

    def test_as_deep_as_the_deepest_of_its_lines(self):
        rules = read("rule a if x\nrule b if a\nrule c if b and x\nrule d if x and b\n")[0]
        start = (given(("x", ())), by(0, ("a", ()), 0), by(1, ("b", ()), 1))
        for last in (by(2, ("c", ()), 2, 0), by(3, ("d", ()), 0, 2)):
            self.takes(rules, (("x", ()),), start + (last,))
            self.assertEqual(depth(start + (last,)), 3)

    def test_the_line_that_is_told_counts_and_not_another_one_of_its_fact(self):
        rules = read("rule a if x\nrule x if a\nrule b if x\n")[0]
        start = (given(("x", ())), by(0, ("a", ()), 0), by(1, ("x", ()), 1))
        self.takes(rules, (("x", ()),), start + (by(2, ("b", ()), 2),))
        self.assertEqual(depth(start + (by(2, ("b", ()), 2),)), 3)
        self.assertEqual(depth(start + (by(2, ("b", ()), 0),)), 1)


if __name__ == "__main__":
    unittest.main()
