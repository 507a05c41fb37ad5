import random
import unittest

import draws
import reckoning
import remaking
from rulehall.errors import HallError, NoPlace, NoRoom
from rulehall.levels import levels_of
from rulehall.models import model
from rulehall.reading import read
from rulehall.things import are_rules
from rulehall.turning import plain
from rulehall.unfolding import unfolded
from samples import no, numbered, rule, yes

DRAWN = draws.pairs(111, 300) + draws.pairs(112, 100, with_no=False)


def rules_of(*texts):
    return read("".join("rule " + text + "\n" for text in texts))[0]


def yes_places(rules):
    return [
        (number, place) for number, some in enumerate(rules) for place, literal in enumerate(some[1])
        if literal[0] == "yes"
    ]


def has_room(rules, coming):
    return len(rules) - 1 + len(coming) <= 16 and all(len(body) <= 4 for head, body in coming)


class Case(unittest.TestCase):
    def told(self, texts, number, place, *wanted):
        """Wanted are the texts of the rules that come."""
        rules = rules_of(*texts)
        coming = rules_of(*wanted)
        self.assertEqual(unfolded(rules, number, place), rules[:number] + coming + rules[number + 1:])
        self.assertEqual(remaking.coming(rules, number, place), coming)

    def met(self, literal, head, wanted=None):
        """The terms of a literal and of a head, and those that both become; None where they can't be the same."""
        rules = rules_of(f"p {literal} if q {literal} and r A B C", f"q {head} if r X Y Z and r A B C")
        found = unfolded(rules, 0, 0)[:-1]
        self.assertEqual(found, remaking.coming(rules, 0, 0))
        self.assertEqual([" ".join(some[0][1]) for some in found], [] if wanted is None else [wanted])

    def refused(self, refusal, rules, number, place):
        with self.assertRaises(HallError) as taken:
            unfolded(rules, number, place)
        self.assertIs(type(taken.exception), refusal)
        self.assertIsInstance(taken.exception, ValueError)


class Unfolded(Case):
    def test_one_rule(self):
        self.told(("p A if q A", "q A if r A"), 0, 0, "p A if r A")
        self.told(("q A if r A", "p A if q A"), 1, 0, "p A if r A")

    def test_each_rule_of_the_kind_in_order(self):
        texts = ("q A if s A", "p A if q A", "r a", "q a", "q B if t A B and not r B")
        self.told(texts, 1, 0, "p A if s A", "p a", "p A if t B A and not r A")

    def test_a_kind_without_a_rule(self):
        self.told(("p A if q A and r A", "r A if s A"), 0, 0)
        self.told(("p if q",), 0, 0)

    def test_the_other_literals_stay_around_it(self):
        texts = ("p if a and q and not b", "q if c and not d", "q")
        self.told(texts, 0, 1, "p if a and c and not d and not b", "p if a and not b")
        self.told(("p if q and a and q", "q if b"), 0, 0, "p if b and a and q")
        self.told(("p if q and a and q", "q if b"), 0, 2, "p if q and a and b")

    def test_a_literal_that_comes_twice_stands_twice(self):
        self.told(("p if q and a", "q if a and a"), 0, 0, "p if a and a and a")

    def test_rules_that_come_alike_stay(self):
        self.told(("p if q A", "q A if s A", "q B if s B"), 0, 0, "p if s A", "p if s A")

    def test_the_others_stay_as_they_are(self):
        texts = ("x Z9 if y Z9 B", "p A if q A", "q D if r D C", "x B if y A B", "p A if q A")
        self.told(texts, 1, 0, "p A if r A B")
        self.told(texts, 4, 0, "p A if r A B")

    def test_no_literals_are_given_terms_too(self):
        self.told(("p if q A and not r A", "q a"), 0, 0, "p if not r a")
        self.told(("p A if s A B and not r A B and q A B", "q C C if t C and not u C"), 0, 2,
                  "p A if s A A and not r A A and t A and not u A")

    def test_all_that_come_are_plain(self):
        self.told(("p C if q C B and r B", "q B A if s A Z B"), 0, 0, "p A if s B C A and r B")
        self.told(("p Z if r X and q Z", "q A if s A B"), 0, 1, "p A if r B and s A C")

    def test_variables_of_the_same_name(self):
        self.told(("p A B if q A B", "q B A if r A B"), 0, 0, "p A B if r B A")
        self.told(("p A if q A B and s B", "q B C if r A B C"), 0, 0, "p A if r B A C and s C")
        self.told(("p A if q A and s B", "q A if r A B"), 0, 0, "p A if r A B and s C")
        self.told(("p A B if q B and s A", "q A if r A B"), 0, 0, "p A B if r B C and s A")

    def test_a_rule_by_itself(self):
        self.told(("p A B if e A B", "p A C if e A B and p B C"), 1, 1,
                  "p A B if e A C and e C B", "p A B if e A C and e C D and p D B")
        self.told(("p A B if p B A",), 0, 0, "p A B if p A B")
        self.told(("p A B if p B C and p C A",), 0, 0, "p A B if p C D and p D B and p C A")
        self.told(("p A B if p B C and p C A",), 0, 1, "p A B if p B C and p A D and p D C")
        self.told(("p a if p b", "p b if p a"), 0, 0, "p a if p a")

    def test_two_kinds_that_hang_on_one_another(self):
        self.told(("p A if q A", "q A if p A", "q a"), 0, 0, "p A if p A", "p a")

    def test_no_variables(self):
        self.told(("p if q a b", "q a b if r", "q b a if s", "q a b"), 0, 0, "p if r", "p")

    def test_no_terms(self):
        self.told(("p A if q and r A", "q if s B"), 0, 0, "p A if s B and r A")


class MadeTheSame(Case):
    def test_words_and_words(self):
        self.met("a b c", "a b c", "a b c")
        self.met("a b c", "a b d")
        self.met("a b c", "b b c")

    def test_variables_met_by_words(self):
        self.met("A B C", "a X b", "a A b")
        self.met("A A B", "a a b", "a a b")
        self.met("A A B", "a b c")
        self.met("A B A", "a b b")

    def test_words_met_by_variables(self):
        self.met("a A b", "X Y Z", "a A b")
        self.met("a a A", "X X Y", "a a A")
        self.met("a b A", "X X Y")
        self.met("a A b", "X Y X")

    def test_variables_met_by_variables(self):
        self.met("A B C", "X Y Z", "A B C")
        self.met("A B C", "X X Y", "A A B")
        self.met("A B C", "X X X", "A A A")
        self.met("A A B", "X Y Z", "A A B")
        self.met("B A C", "A B C", "A B C")
        self.met("B A C", "B A A", "A B B")

    def test_variables_met_by_themselves(self):
        self.met("A B C", "A B C", "A B C")
        self.met("A A A", "A A A", "A A A")
        self.met("A A A", "A B C", "A A A")
        self.met("A B A", "A A B", "A A A")

    def test_in_several_steps(self):
        self.met("A A B", "X Y Y", "A A A")
        self.met("A A b", "X Y Y", "b b b")
        self.met("A B A", "a X X", "a a a")
        self.met("A B A", "X X a", "a a a")
        self.met("A B B", "X X a", "a a a")
        self.met("A B B", "X X X", "A A A")
        self.met("a B B", "X X Y", "a a a")
        self.met("A a A", "X X b")
        self.met("A B A", "a X b")
        self.met("a B B", "X X b")

    def test_other_numbers_of_terms_are_not_met(self):
        for left, right in ((("A",), ("A", "B")), (("A", "B"), ("A",)), ((), ("a",)), (("a",), ())):
            rules = (rule("p", (), yes("q", *left)), rule("q", right, yes("r", "A", "B")))
            self.assertEqual(unfolded(rules, 0, 0), rules[1:])

    def test_all_terms_of_three_places(self):
        source = random.Random(113)
        ways = {True: 0, False: 0}
        for turn in range(2000):
            left = tuple(source.choice("ABCDab") for place in range(3))
            right = tuple(source.choice("ABCXYab") for place in range(3))
            rules = (
                rule("p", ("D", "C", "A"), yes("r", "A", "B"), yes("q", *left), yes("r", "C", "D")),
                rule("q", right, yes("t", "X", "A", "C"), yes("s", "B", "Y")),
            )
            found = unfolded(rules, 0, 1)
            self.assertEqual(found[:-1], remaking.coming(rules, 0, 1), rules)
            ways[len(found) == 2] += 1
        self.assertGreater(min(ways.values()), 300, ways)


class NoSuchPlace(Case):
    RULES = rules_of("p A if q A and not r A and q A", "q a", "r A if s A", "q A if s A and t A")

    def test_no_such_rule(self):
        for number in (-1, -2, -4, -5, -100, 4, 5, 100, 10 ** 30, -10 ** 30):
            for place in (0, 1, -1, 7):
                self.refused(NoPlace, self.RULES, number, place)
        for number in (0, -1, 1):
            self.refused(NoPlace, (), number, 0)

    def test_no_such_literal(self):
        for place in (-1, -3, -4, -100, 3, 4, 100, 10 ** 30):
            self.refused(NoPlace, self.RULES, 0, place)
        for place in (0, -1, 1):
            self.refused(NoPlace, self.RULES, 1, place)
        for place in (-1, 1):
            self.refused(NoPlace, self.RULES, 2, place)
        for place in (-1, 2):
            self.refused(NoPlace, self.RULES, 3, place)

    def test_a_no_literal(self):
        self.refused(NoPlace, self.RULES, 0, 1)
        self.refused(NoPlace, rules_of("p if not q", "q"), 0, 0)

    def test_the_first_and_the_last_are_places(self):
        self.assertEqual(len(unfolded(self.RULES, 0, 0)), 5)
        self.assertEqual(len(unfolded(self.RULES, 0, 2)), 5)
        self.assertEqual(len(unfolded(self.RULES, 3, 1)), 3)

    def test_ahead_of_no_room(self):
        wide = rules_of("p if q and q and q and not r", "q if s and s") + tuple(rule("s", ()) for turn in range(14))
        self.refused(NoRoom, wide, 0, 0)
        for number, place in ((0, 3), (0, 4), (0, -1), (16, 0), (-1, 0), (2, 0)):
            self.refused(NoPlace, wide, number, place)
        wide = wide + wide
        self.refused(NoRoom, wide, 0, 0)
        for number, place in ((0, 3), (0, 4), (0, -1), (32, 0), (-1, 0), (2, 0)):
            self.refused(NoPlace, wide, number, place)


class NoRoomLeft(Case):
    def test_four_literals_just_fit(self):
        self.told(("p if q and a and a", "q if b and not c"), 0, 0, "p if b and not c and a and a")
        self.told(("p if q and a and a and a", "q if b"), 0, 0, "p if b and a and a and a")
        self.told(("p if q", "q if a and b and c and not d"), 0, 0, "p if a and b and c and not d")
        self.told(("p if q and a and a and a", "q"), 0, 0, "p if a and a and a")

    def test_five_literals(self):
        for texts in (
            ("p if q and a and a", "q if a and b and c"), ("p if q and a and a and a", "q if b and not c"),
            ("p if q and a", "q if a and a and b and b"), ("p if q and a and a", "q", "q if b", "q if b and c and d"),
            ("p if q and a and a", "q if b and c and d", "q"),
        ):
            self.refused(NoRoom, rules_of(*texts), 0, 0)

    def test_a_literal_that_stands_there_already_counts(self):
        self.refused(NoRoom, rules_of("p if q and a and b", "q if a and b and a"), 0, 0)

    def test_a_rule_that_can_not_be_met_needs_no_room(self):
        self.told(("p if q a and a and a", "q b if a and b and c"), 0, 0)
        self.told(("p if q a and a and a", "q b if a and b and c", "q a if d"), 0, 0, "p if d and a and a")

    def test_a_rule_by_itself(self):
        self.refused(NoRoom, rules_of("p A B if p A C and p C D and p D B"), 0, 0)
        self.refused(NoRoom, rules_of("p A B if p A C and p C B and a"), 0, 0)
        self.told(("p A B if p A C and p C B",), 0, 0, "p A B if p A C and p C D and p D B")

    def counted(self, others, count):
        """One rule to unfold by so many rules, and so many others."""
        names = numbered(max(count, others))
        return (
            tuple(rule("x", (name,)) for name in names[:others]) + (rule("p", ("A",), yes("q", "A")),)
            + tuple(rule("q", (name,)) for name in names[:count])
        )

    def test_sixteen_rules_just_fit(self):
        for others, count in ((14, 1), (12, 2), (10, 3), (2, 7), (0, 8)):
            rules = self.counted(others, count)
            self.assertEqual(others + 2 * count, 16)
            coming = tuple(rule("p", (name,)) for name in numbered(count))
            self.assertEqual(unfolded(rules, others, 0), rules[:others] + coming + rules[others + 1:])

    def test_seventeen_rules(self):
        for others, count in ((13, 2), (11, 3), (3, 7), (1, 8), (12, 3), (10, 4), (0, 9), (0, 15)):
            self.assertGreater(others + 2 * count, 16)
            self.refused(NoRoom, self.counted(others, count), others, 0)

    def test_rules_that_can_not_be_met_need_no_room(self):
        rules = tuple(rule("q", (name,)) for name in numbered(15))
        self.assertEqual(unfolded(rules + (rule("p", (), yes("q", "ab")),), 15, 0), rules + (rule("p", ()),))
        self.assertEqual(unfolded(rules + (rule("p", (), yes("q", "zz")),), 15, 0), rules)
        self.refused(NoRoom, rules + (rule("p", (), yes("q", "A")),), 15, 0)

    def test_more_rules_than_may_be(self):
        rules = self.counted(15, 1)
        self.assertEqual(len(rules), 17)
        self.refused(NoRoom, rules, 15, 0)
        self.assertEqual(unfolded(rules[:-1] + (rule("y", ()),), 15, 0), rules[:15] + (rule("y", ()),))

    def test_a_longer_rule_elsewhere(self):
        longer = rule("x", (), *[yes(kind) for kind in "abcde"])
        rules = rules_of("p if q", "q if a") + (longer,)
        self.assertEqual(unfolded(rules, 0, 0), rules_of("p if a", "q if a") + (longer,))
        self.assertEqual(unfolded(rules, 2, 0), rules[:2])
        self.refused(NoRoom, rules + (rule("a", (), no("b")),), 2, 0)
        self.assertEqual(unfolded(rules + (rule("a", ()),), 2, 0)[2], rule("x", (), *[yes(kind) for kind in "bcde"]))


class Drawn(Case):
    def test_at_each_yes_literal(self):
        seen = {"none": 0, "one": 0, "several": 0, "no room": 0, "itself": 0}
        for rules, facts in DRAWN:
            for number, place in yes_places(rules):
                coming = remaking.coming(rules, number, place)
                if not has_room(rules, coming):
                    self.refused(NoRoom, rules, number, place)
                    seen["no room"] += 1
                    continue
                found = unfolded(rules, number, place)
                self.assertEqual(found, rules[:number] + coming + rules[number + 1:], (rules, number, place))
                self.assertIs(are_rules(found), True)
                self.assertEqual([plain(some) for some in coming], list(coming))
                seen["none one several".split()[min(2, len(coming))]] += 1
                seen["itself"] += rules[number][0][0] == rules[number][1][place][1][0] and len(coming) > 0
        self.assertGreater(min(seen.values()), 50, seen)

    def test_at_each_other_place(self):
        for rules, facts in DRAWN[:60]:
            able = yes_places(rules)
            for number in range(-2, len(rules) + 2):
                for place in range(-2, 6):
                    if (number, place) not in able:
                        self.refused(NoPlace, rules, number, place)

    def test_they_have_levels(self):
        for rules, facts in DRAWN:
            for number, place in yes_places(rules):
                if has_room(rules, remaking.coming(rules, number, place)):
                    self.assertIsNotNone(reckoning.raised_levels(unfolded(rules, number, place)))
                    levels_of(unfolded(rules, number, place))

    def test_the_model_stays_where_no_given_fact_is_of_the_kind(self):
        told = grown = 0
        for rules, facts in DRAWN:
            for number, place in yes_places(rules):
                kind = rules[number][1][place][1][0]
                some = tuple(fact for fact in facts if fact[0] != kind)
                if has_room(rules, remaking.coming(rules, number, place)):
                    found = unfolded(rules, number, place)
                    whole = model(rules, some)
                    self.assertEqual(model(found, some), whole, (rules, some, number, place))
                    told += 1
                    grown += found != rules and len(whole) > len(some) + 3
        self.assertGreater(told, 500)
        self.assertGreater(grown, 200)

    def test_again_and_again(self):
        source = random.Random(114)
        for rules, facts in DRAWN[:60]:
            start = rules
            for turn in range(6):
                able = [(number, place) for number, place in yes_places(rules)
                        if has_room(rules, remaking.coming(rules, number, place))]
                if able:
                    number, place = source.choice(able)
                    kind = rules[number][1][place][1][0]
                    facts = tuple(fact for fact in facts if fact[0] != kind)
                    rules = unfolded(rules, number, place)
                    self.assertEqual(model(rules, facts), model(start, facts))

    def test_where_a_given_fact_is_of_the_kind_it_is_no_longer_asked_for(self):
        rules = rules_of("p A if q A", "q A if r A")
        facts = (("q", ("a",)), ("r", ("b",)))
        self.assertEqual(len(model(rules, facts)), 5)
        self.assertEqual(len(model(unfolded(rules, 0, 0), facts)), 4)


if __name__ == "__main__":
    unittest.main()
