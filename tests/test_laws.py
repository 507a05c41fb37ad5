"""What holds of models, ranks and reasons for all rules that have levels and all facts."""

import copy
import itertools
import random
import unittest

import draws
import reckoning
from rulehall.errors import NoLevels, NoReason
from rulehall.levels import levels_of
from rulehall.models import broken, kept, model, ranks
from rulehall.reading import read
from rulehall.reasons import accepted, depth, reason_of
from rulehall.things import are_facts, are_rules
from rulehall.ways import ways
from samples import JUNK, deep

DRAWN = draws.pairs(61, 250)
WITHOUT_NO = draws.pairs(62, 150, with_no=False)
SMALL = (
    read("rule p A if u A\nrule q A B if p A and p B\nrule s if q a b\nfact u a\n"),
    read("rule q A C if q A B and q B C\nfact q a b\nfact q b a\n"),
    read("rule p B if p A and q A B\nrule s if p b\nrule u b if s\nfact p a\nfact q a b\n"),
    read("rule s\nrule u a if s\nrule p A if u A\nrule u b if p b\n"),
    read("rule p A if q A A\nrule q A B if q B A\nfact q a b\n"),
    read("fact p a\nfact s\n"),
    read("rule u A if p A and q A B\nrule p A if u A\n"),
)


class Draws(unittest.TestCase):
    def test_they_are_rules_and_facts(self):
        for rules, facts in DRAWN + WITHOUT_NO:
            self.assertIs(are_rules(rules), True, rules)
            self.assertIs(are_facts(facts, rules), True, facts)


class Models(unittest.TestCase):
    """0.2 (a)"""

    def test_the_given_facts_are_there(self):
        for rules, facts in DRAWN + WITHOUT_NO:
            self.assertLessEqual(set(facts), set(model(rules, facts)))

    def test_every_rule_is_kept(self):
        for rules, facts in DRAWN + WITHOUT_NO:
            whole = model(rules, facts)
            self.assertIs(kept(rules, whole), True)
            self.assertEqual(broken(rules, whole), ())
            self.assertEqual(reckoning.broken(rules, whole), ())

    def test_each_other_fact_follows_from_facts_of_lesser_rank(self):
        followed = 0
        for rules, facts in DRAWN + WITHOUT_NO:
            whole = model(rules, facts)
            found = dict(ranks(rules, facts))
            self.assertEqual(tuple(sorted(found)), whole)
            least = {}
            for one in rules:
                for way in ways(one, whole):
                    told = [reckoning.with_words(atom, dict(way)) for mark, atom in one[1] if mark == "yes"]
                    head = reckoning.with_words(one[0], dict(way))
                    least.setdefault(head, []).append(max([found[fact] for fact in told], default=0))
            for fact, rank in found.items():
                self.assertEqual(rank, 0 if fact in facts else 1 + min(least[fact]))
                followed += rank > 1
        self.assertGreater(followed, 100)

    def test_the_model_of_the_model_is_the_model(self):
        for rules, facts in WITHOUT_NO:
            whole = model(rules, facts)
            self.assertEqual(model(rules, whole), whole)
            self.assertEqual({rank for fact, rank in ranks(rules, whole)} - {0}, set())


class WithoutNoLiterals(unittest.TestCase):
    """0.2 (b)"""

    def test_there_are_no_no_literals(self):
        for rules, facts in tuple(WITHOUT_NO) + SMALL:
            self.assertNotIn("no", [mark for head, body in rules for mark, atom in body])

    def test_more_given_facts_give_no_fact_less(self):
        source = random.Random(63)
        grown = 0
        for rules, facts in WITHOUT_NO:
            whole = set(model(rules, facts))
            for turn in range(3):
                more = tuple(sorted(set(facts) | set(draws.drawn_facts(source, most=3))))
                larger = set(model(rules, more))
                self.assertLessEqual(whole, larger)
                grown += len(larger) - len(more) > len(whole) - len(facts)
        self.assertGreater(grown, 20)

    def test_all_facts_that_keep_the_rules_hold_the_model(self):
        base = draws.base("pqsu", "ab")
        for rules, facts in SMALL:
            whole = set(model(rules, facts))
            self.assertLessEqual(whole, set(base))
            keeping = 0
            for count in range(len(base) + 1):
                for some in itertools.combinations(base, count):
                    if set(facts) <= set(some) and kept(rules, some):
                        self.assertLessEqual(whole, set(some))
                        keeping += 1
            self.assertGreater(keeping, 1)
            self.assertIs(kept(rules, tuple(sorted(whole))), True)

    def test_drawn_facts_that_keep_the_rules_hold_the_model(self):
        source = random.Random(64)
        keeping = 0
        for rules, facts in WITHOUT_NO:
            whole = set(model(rules, facts))
            for turn in range(3):
                larger = set(facts) | set(draws.drawn_facts(source, most=3))
                while not kept(rules, tuple(sorted(larger))):
                    larger |= {fact for number, fact in broken(rules, tuple(sorted(larger)))}
                self.assertLessEqual(whole, larger)
                keeping += larger > whole
        self.assertGreater(keeping, 50)


class Reasons(unittest.TestCase):
    """0.2 (c)"""

    def test_each_fact_of_a_model_has_one_as_deep_as_its_rank(self):
        for rules, facts in DRAWN[:120]:
            found = dict(ranks(rules, facts))
            for fact in model(rules, facts):
                reason = reason_of(rules, facts, fact)
                self.assertIs(accepted(rules, facts, reason), True)
                self.assertEqual(depth(reason), found[fact])

    def test_none_is_less_deep_and_none_tells_of_another_fact(self):
        source = random.Random(65)
        deeper = 0
        for rules, facts in DRAWN[:120]:
            found = dict(ranks(rules, facts))
            for turn in range(5):
                reason = draws.drawn_reason(source, rules, facts, source.randint(1, 10))
                for count in range(1, len(reason) + 1):
                    some = reason[:count]
                    last = some[-1][1] if some[-1][0] == "given" else some[-1][2]
                    self.assertIn(last, found)
                    self.assertGreaterEqual(depth(some), found[last])
                    deeper += depth(some) > found[last]
                if reason:
                    self.assertIs(accepted(rules, facts, reason), True)
        self.assertGreater(deeper, 100)

    def test_of_all_short_ones(self):
        rules, facts = read("rule p A if q A and not r A\nrule r a if s\nrule p b if p c\nrule s\nfact q a\nfact q c\n")
        found = dict(ranks(rules, facts))
        self.assertNotIn(("p", ("a",)), found)
        named = draws.base("prs", "abc") + list(facts)
        lines = [("given", fact) for fact in named]
        lines += [("by", number, fact, told) for number in range(4) for fact in named for told in ((), (0,))]
        taken = 0
        for reason in [(one,) for one in lines] + list(itertools.product(lines, repeat=2)):
            if accepted(rules, facts, reason):
                last = reason[-1][1] if reason[-1][0] == "given" else reason[-1][2]
                self.assertGreaterEqual(depth(reason), found[last])
                taken += 1
        self.assertGreater(taken, 10)


class OrderOfRules(unittest.TestCase):
    """0.2 (f), of the order of rules"""

    def same(self, rules, other, facts):
        self.assertEqual(model(rules, facts), model(other, facts))
        self.assertEqual(ranks(rules, facts), ranks(other, facts))
        self.assertEqual(levels_of(rules), levels_of(other))
        self.assertEqual(kept(rules, facts), kept(other, facts))

    def test_other_orders(self):
        source = random.Random(66)
        for rules, facts in DRAWN + WITHOUT_NO:
            self.same(rules, rules[::-1], facts)
            self.same(rules, tuple(source.sample(rules, len(rules))), facts)

    def test_all_orders_of_a_few(self):
        rules, facts = read(
            "rule p A if q A and not r A\nrule r A if t A B and not s\nrule s if u A and q A\nrule u A if t A A\n"
            "fact q a\nfact q b\nfact t a b\n"
        )
        for other in itertools.permutations(rules):
            self.same(rules, other, facts)

    def test_a_rule_told_twice(self):
        source = random.Random(67)
        for rules, facts in DRAWN:
            if rules:
                place = source.randrange(len(rules) + 1)
                self.same(rules, rules[:place] + (source.choice(rules),) + rules[place:], facts)

    def test_other_orders_of_a_body(self):
        for rules, facts in DRAWN:
            self.same(rules, tuple((head, body[::-1]) for head, body in rules), facts)


class NothingIsChangedOrKept(unittest.TestCase):
    """0.3"""

    def calls(self, rules, facts):
        found = [levels_of(rules), model(rules, facts), ranks(rules, facts), kept(rules, facts), broken(rules, facts)]
        found += [ways(one, facts) for one in rules]
        for fact in model(rules, facts):
            reason = reason_of(rules, facts, fact)
            found += [reason, accepted(rules, facts, reason), depth(reason)]
        return found

    def test_what_is_handed_in_stays(self):
        for rules, facts in DRAWN[:60]:
            before = copy.deepcopy((rules, facts))
            shown = repr((rules, facts))
            self.calls(rules, facts)
            self.assertEqual((rules, facts), before)
            self.assertEqual(repr((rules, facts)), shown)

    def test_each_asking_stands_alone(self):
        first = [self.calls(rules, facts) for rules, facts in DRAWN[:40]]
        again = [self.calls(rules, facts) for rules, facts in DRAWN[:40][::-1]]
        self.assertEqual(first, again[::-1])

    def test_refusals_leave_no_trace(self):
        rules, facts = DRAWN[0]
        before = self.calls(rules, facts)
        self.assertRaises(NoLevels, model, read("rule p if not p\n")[0], facts)
        self.assertRaises(NoReason, reason_of, rules, facts, ("nowhere", ()))
        self.assertEqual(self.calls(rules, facts), before)

    def test_things_that_are_no_reasons_stay(self):
        rules, facts = read("rule p A if q A\nfact q a\n")
        things = list(JUNK) + [
            [("given", ("q", ("a",)))], (["given", ["q", ["a"]]],), (("by", 0, ("p", ("a",)), [0]),), deep(list),
            (("given", ("q", ("a",))), ["by", 0, ["p", ["a"]], [0]]),
        ]
        before = copy.deepcopy(things)
        for thing in things:
            self.assertIs(accepted(rules, facts, thing), False)
        self.assertEqual(things, before)


if __name__ == "__main__":
    unittest.main()
