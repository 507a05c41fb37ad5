"""What holds of the whole program for all rules that have levels and all facts."""

import copy
import itertools
import random
import unittest

import draws
import reckoning
from rulehall.asking import answers, narrowed, needed
from rulehall.errors import AlreadyThere, HallError, NoLevels, NoPlace, NoReason, NoThing
from rulehall.halls import Hall
from rulehall.levels import levels_of
from rulehall.models import broken, kept, model, ranks
from rulehall.reading import read
from rulehall.reasons import accepted, depth, reason_of
from rulehall.things import are_facts, are_rules
from rulehall.turning import covers, lean, plain, turned
from rulehall.unfolding import unfolded
from rulehall.ways import ways
from samples import JUNK, deep

DRAWN = draws.pairs(61, 250)
WITHOUT_NO = draws.pairs(62, 150, with_no=False)
SMALL = (
    read("rule p A if u A\nrule q A B if p A and p B\nrule s if q a b\nfact u a\n"),
    read("rule q A C if q A B and q B C\nfact q a b\nfact q b a\n"),
    read("rule p B if p A and q A B\nrule s if p b\nrule u b if s\nfact p a\nfact q a b\n"),
    read("rule s\nrule u a if s\nrule p A if u A\nrule u b if p b\n"),
    read("rule p A if q A A\nrule q A B if q B A\nfact q a b\n"),
    read("fact p a\nfact s\n"),
    read("rule u A if p A and q A B\nrule p A if u A\n"),
)
NAMES = {"p": "q", "q": "p", "a": "b", "b": "a", "yes": "no", "A": "c"}


def open_atom(kind):
    return (kind, ("A", "B", "C")[:draws.COUNTS[kind]])


def unfoldings(rules):
    found = []
    for number, some in enumerate(rules):
        for place, literal in enumerate(some[1]):
            try:
                found.append((literal[1][0], unfolded(rules, number, place)))
            except HallError:
                pass
    return found


class Draws(unittest.TestCase):
    def test_they_are_rules_and_facts(self):
        for rules, facts in DRAWN + WITHOUT_NO:
            self.assertIs(are_rules(rules), True, rules)
            self.assertIs(are_facts(facts, rules), True, facts)


class Models(unittest.TestCase):
    """0.2 (a)"""

    def test_the_given_facts_are_there(self):
        for rules, facts in DRAWN + WITHOUT_NO:
            self.assertLessEqual(set(facts), set(model(rules, facts)))

    def test_every_rule_is_kept(self):
        for rules, facts in DRAWN + WITHOUT_NO:
            whole = model(rules, facts)
            self.assertIs(kept(rules, whole), True)
            self.assertEqual(broken(rules, whole), ())
            self.assertEqual(reckoning.broken(rules, whole), ())

    def test_each_other_fact_follows_from_facts_of_lesser_rank(self):
        followed = 0
        for rules, facts in DRAWN + WITHOUT_NO:
            whole = model(rules, facts)
            found = dict(ranks(rules, facts))
            self.assertEqual(tuple(sorted(found)), whole)
            least = {}
            for one in rules:
                for way in ways(one, whole):
                    told = [reckoning.with_words(atom, dict(way)) for mark, atom in one[1] if mark == "yes"]
                    head = reckoning.with_words(one[0], dict(way))
                    least.setdefault(head, []).append(max([found[fact] for fact in told], default=0))
            for fact, rank in found.items():
                self.assertEqual(rank, 0 if fact in facts else 1 + min(least[fact]))
                followed += rank > 1
        self.assertGreater(followed, 100)

    def test_the_model_of_the_model_is_the_model(self):
        for rules, facts in WITHOUT_NO:
            whole = model(rules, facts)
            self.assertEqual(model(rules, whole), whole)
            self.assertEqual({rank for fact, rank in ranks(rules, whole)} - {0}, set())


class WithoutNoLiterals(unittest.TestCase):
    """0.2 (b)"""

    def test_there_are_no_no_literals(self):
        for rules, facts in tuple(WITHOUT_NO) + SMALL:
            self.assertNotIn("no", [mark for head, body in rules for mark, atom in body])

    def test_more_given_facts_give_no_fact_less(self):
        source = random.Random(63)
        grown = 0
        for rules, facts in WITHOUT_NO:
            whole = set(model(rules, facts))
            for turn in range(3):
                more = tuple(sorted(set(facts) | set(draws.drawn_facts(source, most=3))))
                larger = set(model(rules, more))
                self.assertLessEqual(whole, larger)
                grown += len(larger) - len(more) > len(whole) - len(facts)
        self.assertGreater(grown, 20)

    def test_all_facts_that_keep_the_rules_hold_the_model(self):
        base = draws.base("pqsu", "ab")
        for rules, facts in SMALL:
            whole = set(model(rules, facts))
            self.assertLessEqual(whole, set(base))
            keeping = 0
            for count in range(len(base) + 1):
                for some in itertools.combinations(base, count):
                    if set(facts) <= set(some) and kept(rules, some):
                        self.assertLessEqual(whole, set(some))
                        keeping += 1
            self.assertGreater(keeping, 1)
            self.assertIs(kept(rules, tuple(sorted(whole))), True)

    def test_drawn_facts_that_keep_the_rules_hold_the_model(self):
        source = random.Random(64)
        keeping = 0
        for rules, facts in WITHOUT_NO:
            whole = set(model(rules, facts))
            for turn in range(3):
                larger = set(facts) | set(draws.drawn_facts(source, most=3))
                while not kept(rules, tuple(sorted(larger))):
                    larger |= {fact for number, fact in broken(rules, tuple(sorted(larger)))}
                self.assertLessEqual(whole, larger)
                keeping += larger > whole
        self.assertGreater(keeping, 50)


class Reasons(unittest.TestCase):
    """0.2 (c)"""

    def test_each_fact_of_a_model_has_one_as_deep_as_its_rank(self):
        for rules, facts in DRAWN[:120]:
            found = dict(ranks(rules, facts))
            for fact in model(rules, facts):
                reason = reason_of(rules, facts, fact)
                self.assertIs(accepted(rules, facts, reason), True)
                self.assertEqual(depth(reason), found[fact])

    def test_none_is_less_deep_and_none_tells_of_another_fact(self):
        source = random.Random(65)
        deeper = 0
        for rules, facts in DRAWN[:120]:
            found = dict(ranks(rules, facts))
            for turn in range(5):
                reason = draws.drawn_reason(source, rules, facts, source.randint(1, 10))
                for count in range(1, len(reason) + 1):
                    some = reason[:count]
                    last = some[-1][1] if some[-1][0] == "given" else some[-1][2]
                    self.assertIn(last, found)
                    self.assertGreaterEqual(depth(some), found[last])
                    deeper += depth(some) > found[last]
                if reason:
                    self.assertIs(accepted(rules, facts, reason), True)
        self.assertGreater(deeper, 100)

    def test_of_all_short_ones(self):
        rules, facts = read("rule p A if q A and not r A\nrule r a if s\nrule p b if p c\nrule s\nfact q a\nfact q c\n")
        found = dict(ranks(rules, facts))
        self.assertNotIn(("p", ("a",)), found)
        named = draws.base("prs", "abc") + list(facts)
        lines = [("given", fact) for fact in named]
        lines += [("by", number, fact, told) for number in range(4) for fact in named for told in ((), (0,))]
        taken = 0
        for reason in [(one,) for one in lines] + list(itertools.product(lines, repeat=2)):
            if accepted(rules, facts, reason):
                last = reason[-1][1] if reason[-1][0] == "given" else reason[-1][2]
                self.assertGreaterEqual(depth(reason), found[last])
                taken += 1
        self.assertGreater(taken, 10)


class ComingAndGoing(unittest.TestCase):
    """0.2 (d)"""

    def test_put_in_and_taken_out_in_any_order(self):
        source = random.Random(68)
        for rules, facts in DRAWN[:80]:
            hall = Hall(rules, ())
            there = set(model(rules, ()))
            for fact in source.sample(facts, len(facts)):
                came, went = hall.put(fact)
                there = (there | set(came)) - set(went)
                self.assertEqual(hall.now(), tuple(sorted(there)))
            self.assertEqual(hall.given(), facts)
            self.assertEqual(hall.now(), model(rules, facts))
            for fact in source.sample(facts, len(facts)):
                before, (came, went) = set(hall.now()), hall.take(fact)
                after = set(model(rules, hall.given()))
                self.assertEqual((set(came), set(went)), (after - before, before - after))
            self.assertEqual((hall.given(), hall.now()), ((), model(rules, ())))

    def test_without_no_literals_a_put_makes_nothing_go_and_a_take_nothing_come(self):
        for rules, facts in WITHOUT_NO[:60]:
            hall = Hall(rules, facts)
            for fact in facts:
                came, went = hall.take(fact)
                self.assertEqual(came, ())
                self.assertEqual(hall.put(fact), (went, ()))


class Questions(unittest.TestCase):
    """0.2 (e)"""

    def test_answers_of_the_narrowed(self):
        told = 0
        for rules, facts in DRAWN + WITHOUT_NO:
            whole = model(rules, facts)
            for kind in draws.KINDS:
                some_rules, some_facts = narrowed(rules, facts, kind)
                wanted = tuple(fact for fact in whole if fact[0] == kind)
                self.assertEqual(answers(rules, facts, open_atom(kind)), wanted)
                self.assertEqual(answers(some_rules, some_facts, open_atom(kind)), wanted)
                self.assertEqual(tuple(fact for fact in model(some_rules, some_facts) if fact[0] == kind), wanted)
                told += len(wanted) > 0 and len(some_rules) + len(some_facts) < len(rules) + len(facts)
        self.assertGreater(told, 300)

    def test_what_the_question_does_not_hang_on(self):
        source = random.Random(69)
        for rules, facts in DRAWN[:100]:
            for kind in draws.KINDS:
                kinds = needed(rules, kind)
                others = [one for one in draws.KINDS if one not in kinds]
                more = tuple(draws.drawn_rule(source, one, draws.KINDS, ()) for one in others)
                more = tuple(one for one in rules if one[0][0] in kinds) + more
                given = {fact for fact in facts if fact[0] in kinds}
                if others:
                    given |= set(draws.drawn_facts(source, others, 6))
                wanted = answers(rules, facts, open_atom(kind))
                self.assertEqual(answers(more, tuple(sorted(given)), open_atom(kind)), wanted)


class OtherRules(unittest.TestCase):
    """0.2 (f), of unfolding, of covered rules, and of other names"""

    def test_unfolded_rules(self):
        told = 0
        for rules, facts in DRAWN[:120] + WITHOUT_NO[:60]:
            for kind, other in unfoldings(rules):
                some = tuple(fact for fact in facts if fact[0] != kind)
                self.assertEqual(model(other, some), model(rules, some))
                told += 1
        self.assertGreater(told, 200)

    def test_lean_rules(self):
        for rules, facts in DRAWN + WITHOUT_NO:
            found = lean(rules + rules[::-1])
            self.assertEqual(found, lean(rules))
            self.assertEqual(model(found, facts), model(rules, facts))

    def test_plain_rules(self):
        for rules, facts in DRAWN:
            other = tuple(plain(one) for one in rules)
            self.assertEqual(model(other, facts), model(rules, facts))
            self.assertEqual(ranks(other, facts), ranks(rules, facts))
            self.assertEqual(lean(other), tuple(plain(one) for one in lean(rules)))

    def test_turned_rules(self):
        source = random.Random(70)
        pool = list(draws.WORDS) + draws.KINDS + ["yes", "no", "other"]
        for rules, facts in DRAWN:
            names = dict(zip(pool, source.sample(pool, len(pool))))
            other_rules = tuple(turned(one, names) for one in rules)
            other_facts = tuple(sorted(turned((fact, ()), names)[0] for fact in facts))
            wanted = tuple(sorted(turned((fact, ()), names)[0] for fact in model(rules, facts)))
            self.assertEqual(model(other_rules, other_facts), wanted)

    def test_a_rule_and_its_plain_one_cover_one_another(self):
        for rules, facts in DRAWN:
            for one in rules:
                self.assertIs(covers(plain(one), one), True)
                self.assertIs(covers(one, plain(one)), True)


class OrderOfRules(unittest.TestCase):
    """0.2 (f), of the order of rules"""

    def same(self, rules, other, facts):
        self.assertEqual(model(rules, facts), model(other, facts))
        self.assertEqual(ranks(rules, facts), ranks(other, facts))
        self.assertEqual(levels_of(rules), levels_of(other))
        self.assertEqual(kept(rules, facts), kept(other, facts))
        self.assertEqual(Hall(rules, facts).now(), Hall(other, facts).now())
        for kind in ("p", "q"):
            self.assertEqual(needed(rules, kind), needed(other, kind))
            self.assertEqual(answers(rules, facts, open_atom(kind)), answers(other, facts, open_atom(kind)))

    def test_other_orders(self):
        source = random.Random(66)
        for rules, facts in DRAWN + WITHOUT_NO:
            self.same(rules, rules[::-1], facts)
            self.same(rules, tuple(source.sample(rules, len(rules))), facts)

    def test_all_orders_of_a_few(self):
        rules, facts = read(
            "rule p A if q A and not r A\nrule r A if t A B and not s\nrule s if u A and q A\nrule u A if t A A\n"
            "fact q a\nfact q b\nfact t a b\n"
        )
        for other in itertools.permutations(rules):
            self.same(rules, other, facts)

    def test_a_rule_told_twice(self):
        source = random.Random(67)
        for rules, facts in DRAWN:
            if rules:
                place = source.randrange(len(rules) + 1)
                self.same(rules, rules[:place] + (source.choice(rules),) + rules[place:], facts)

    def test_other_orders_of_a_body(self):
        for rules, facts in DRAWN:
            self.same(rules, tuple((head, body[::-1]) for head, body in rules), facts)


class NothingIsChangedOrKept(unittest.TestCase):
    """0.3"""

    def calls(self, rules, facts):
        found = [levels_of(rules), model(rules, facts), ranks(rules, facts), kept(rules, facts), broken(rules, facts)]
        found += [ways(one, facts) for one in rules]
        for fact in model(rules, facts):
            reason = reason_of(rules, facts, fact)
            found += [reason, accepted(rules, facts, reason), depth(reason)]
        for kind in draws.KINDS:
            found += [needed(rules, kind), narrowed(rules, facts, kind), answers(rules, facts, open_atom(kind))]
        found += [plain(one) for one in rules] + [turned(one, NAMES) for one in rules] + [lean(rules)]
        found += [covers(one, other) for one, other in itertools.product(rules, repeat=2)] + unfoldings(rules)
        return found + self.hall_calls(Hall(rules, facts), facts)

    def hall_calls(self, hall, facts):
        found = [hall.given(), hall.now()]
        for fact in facts:
            found += [hall.take(fact), hall.given(), hall.now()]
        for fact in facts[::-1]:
            found += [hall.put(fact), hall.given(), hall.now()]
        return found

    def test_what_is_handed_in_stays(self):
        for rules, facts in DRAWN[:60]:
            before = copy.deepcopy((rules, facts, NAMES))
            shown = repr((rules, facts, NAMES))
            self.calls(rules, facts)
            self.assertEqual((rules, facts, NAMES), before)
            self.assertEqual(repr((rules, facts, NAMES)), shown)

    def test_each_asking_stands_alone(self):
        first = [self.calls(rules, facts) for rules, facts in DRAWN[:40]]
        again = [self.calls(rules, facts) for rules, facts in DRAWN[:40][::-1]]
        self.assertEqual(first, again[::-1])

    def test_refusals_leave_no_trace(self):
        rules, facts = DRAWN[0]
        before = self.calls(rules, facts)
        self.assertRaises(NoLevels, model, read("rule p if not p\n")[0], facts)
        self.assertRaises(NoReason, reason_of, rules, facts, ("nowhere", ()))
        self.assertRaises(NoPlace, unfolded, rules, len(rules), 0)
        self.assertRaises(NoThing, Hall(rules, facts).put, [])
        self.assertRaises(AlreadyThere, Hall(rules, facts).put, facts[0])
        self.assertEqual(self.calls(rules, facts), before)

    def test_names_are_not_kept(self):
        names = {"p": "q", "a": "b"}
        some = read("rule p a if q A\n")[0][0]
        self.assertEqual(turned(some, names), read("rule q b if q A\n")[0][0])
        names["p"] = "r"
        self.assertEqual(turned(some, names), read("rule r b if q A\n")[0][0])
        self.assertEqual(turned(some, {}), some)

    def test_things_that_are_put_into_a_hall_stay(self):
        hall = Hall(*read("rule p A if q A\nfact q a\n"))
        things = list(JUNK) + [["q", ["b"]], ("q", ["b"]), deep(list), [("q", ("b",))]]
        before = copy.deepcopy(things)
        for thing in things:
            for asked in (hall.put, hall.take):
                try:
                    asked(thing)
                except HallError:
                    pass
        self.assertEqual(things, before)
        self.assertEqual(hall.given(), (("q", ("a",)),))

    def test_things_that_are_no_reasons_stay(self):
        rules, facts = read("rule p A if q A\nfact q a\n")
        things = list(JUNK) + [
            [("given", ("q", ("a",)))], (["given", ["q", ["a"]]],), (("by", 0, ("p", ("a",)), [0]),), deep(list),
            (("given", ("q", ("a",))), ["by", 0, ["p", ["a"]], [0]]),
        ]
        before = copy.deepcopy(things)
        for thing in things:
            self.assertIs(accepted(rules, facts, thing), False)
        self.assertEqual(things, before)


if __name__ == "__main__":
    unittest.main()
