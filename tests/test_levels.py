import random
import unittest

import draws
import reckoning
from rulehall.asking import answers, narrowed, needed
from rulehall.errors import HallError, NoLevels
from rulehall.halls import Hall
from rulehall.levels import levels_of
from rulehall.models import broken, kept, model, ranks
from rulehall.reasons import accepted, reason_of
from rulehall.unfolding import unfolded
from samples import JUNK, facts_of, no, rule, yes


def chain(kinds, mark):
    """Each kind but the first hangs on the one ahead."""
    return tuple(((above, ()), ((mark, (kind, ())),)) for kind, above in zip(kinds, kinds[1:]))


def ring(kinds, marks):
    """Each kind stands in the body of the next one, the last one in that of the first."""
    return tuple(
        ((above, ()), ((mark, (kind, ())),)) for kind, above, mark in zip(kinds, kinds[1:] + kinds[:1], marks)
    )


WITHOUT_LEVELS = (
    ring("p", ("no",)),
    ring("pq", ("no", "yes")),
    ring("pq", ("yes", "no")),
    ring("pq", ("no", "no")),
    ring("pqr", ("yes", "no", "yes")),
    ring("pqr", ("no", "no", "no")),
    ring("pqrs", ("yes", "yes", "yes", "no")),
    ring("pqrs", ("no", "yes", "no", "yes")),
    ring("pqrs", ("no", "no", "no", "no")),
    (rule("p", ("A",), yes("q", "A"), no("p", "A")),),
    (rule("p", ("A",), yes("p", "A"), no("p", "A")),),
    (rule("p", ("a",), no("p", "b")),),
    (rule("p", (), yes("q"), yes("r")), rule("q", (), yes("s"), no("p"))),
    # The no literal leads out of a ring of yes literals and does not come back by the shortest way.
    (rule("q", (), no("p")), rule("r", (), yes("q")), rule("q", (), yes("r")), rule("p", (), yes("r"))),
)
BESIDE = (
    rule("a", ()),
    rule("b", (), yes("a"), no("c")),
    rule("d", (), yes("b"), yes("d")),
    rule("e", (), no("d")),
)


class Case(unittest.TestCase):
    def refused(self, rules):
        with self.assertRaises(NoLevels) as taken:
            levels_of(rules)
        self.assertTrue(reckoning.is_ring(rules, taken.exception.ring), (rules, taken.exception.ring))

    def told(self, rules, **levels):
        self.assertEqual(levels_of(rules), tuple(sorted(levels.items())))


class Levels(Case):
    def test_no_rules(self):
        self.assertEqual(levels_of(()), ())

    def test_rules_without_a_body(self):
        self.told((rule("p", ()),), p=0)
        self.told((rule("q", ("a",)), rule("p", ()), rule("q", ("b",))), p=0, q=0)

    def test_yes_literals(self):
        self.told((rule("p", (), yes("q")),), p=0, q=0)
        self.told(chain("pqrst", "yes"), p=0, q=0, r=0, s=0, t=0)

    def test_no_literals(self):
        self.told((rule("p", (), no("q")),), p=1, q=0)
        self.told((rule("p", (), no("q"), no("r")),), p=1, q=0, r=0)
        self.told(chain("pqrst", "no"), p=0, q=1, r=2, s=3, t=4)
        self.told(chain("tsrqp", "no"), t=0, s=1, r=2, q=3, p=4)
        self.told(chain("tsrqp", "no")[::-1], t=0, s=1, r=2, q=3, p=4)

    def test_sixteen_no_literals_one_upon_another(self):
        kinds = "abcdefghijklmnopq"
        for rules in (chain(kinds, "no"), chain(kinds, "no")[::-1], chain(kinds[::-1], "no")):
            self.assertEqual(sorted(level for kind, level in levels_of(rules)), list(range(17)))
            self.assertEqual(levels_of(rules), tuple(sorted(reckoning.raised_levels(rules).items())))

    def test_a_yes_literal_above_a_no_literal(self):
        self.told((rule("p", (), no("q")), rule("r", (), yes("p"))), p=1, q=0, r=1)
        self.told((rule("r", (), yes("p")), rule("p", (), no("q"))), p=1, q=0, r=1)
        self.told((rule("r", (), yes("p"), no("p")), rule("p", (), no("q"))), p=1, q=0, r=2)
        self.told((rule("p", (), yes("q"), no("q")),), p=1, q=0)

    def test_the_greatest_of_several_rules(self):
        rules = (rule("p", ()), rule("p", (), no("q")), rule("q", (), no("r")), rule("p", (), yes("r")))
        self.told(rules, p=2, q=1, r=0)
        self.told(rules[::-1], p=2, q=1, r=0)

    def test_a_kind_that_is_its_own_yes_literal(self):
        self.told((rule("p", (), yes("p")),), p=0)
        self.told((rule("p", (), yes("p"), no("q")),), p=1, q=0)
        self.told((rule("p", ("A", "C"), yes("p", "A", "B"), yes("p", "B", "C")),), p=0)

    def test_rings_of_yes_literals_have_one_level(self):
        for kinds in ("pq", "pqr", "pqrs"):
            rules = ring(kinds, ("yes",) * len(kinds))
            self.assertEqual(levels_of(rules), tuple((kind, 0) for kind in kinds))
            for kind in kinds:
                raised = rules + (rule(kind, (), no("x")), rule("x", (), no("y")))
                wanted = tuple((kind, 2) for kind in kinds) + (("x", 1), ("y", 0))
                self.assertEqual(levels_of(raised), wanted)
                self.assertEqual(levels_of(raised[::-1]), wanted)

    def test_kinds_that_are_no_heads(self):
        self.told((rule("p", (), yes("q"), no("r")), rule("s", (), no("p"), yes("t"))), p=1, q=0, r=0, s=2, t=0)

    def test_terms_have_no_level(self):
        self.told((rule("p", ("a", "A"), yes("q", "A", "b"), no("r", "c")),), p=1, q=0, r=0)

    def test_rising_by_kinds(self):
        rules = (rule("zz", (), no("aa")), rule("aa", (), no("mm")), rule("b", (), yes("aaa")))
        self.assertEqual(levels_of(rules), (("aa", 1), ("aaa", 0), ("b", 0), ("mm", 0), ("zz", 2)))

    def test_the_form(self):
        for rules, facts in draws.pairs(21, 60):
            levels = levels_of(rules)
            self.assertIs(type(levels), tuple)
            self.assertEqual([kind for kind, level in levels], reckoning.kinds_of(rules))
            for pair in levels:
                self.assertIs(type(pair), tuple)
                self.assertIs(type(pair[1]), int)

    def test_more_rules_than_may_be(self):
        rules = tuple(rule(kind + "x", (), no(kind)) for kind in "abcdefghijklmnopqrst")
        self.assertEqual(len(levels_of(rules)), 40)


class LeastLevels(Case):
    def drawn(self, kinds, seed, count, most):
        source = random.Random(seed)
        for turn in range(count):
            found = []
            for step in range(source.randint(1, most)):
                body = [(source.choice(("yes", "yes", "no")), (source.choice(kinds), ())) for place in range(
                    source.randint(0, 2))]
                found.append(((source.choice(kinds), ()), tuple(body)))
            yield tuple(found)

    def test_as_by_trying_all(self):
        with_levels = 0
        for rules in self.drawn("pqrs", 22, 400, 6):
            wanted = reckoning.levels_of(rules)
            if wanted is None:
                self.refused(rules)
            else:
                self.assertEqual(levels_of(rules), tuple(sorted(wanted.items())), rules)
                with_levels += 1
        self.assertTrue(100 < with_levels < 300, with_levels)

    def test_as_by_raising(self):
        for rules in self.drawn("abcdefghij", 23, 400, 16):
            wanted = reckoning.raised_levels(rules)
            if wanted is None:
                self.refused(rules)
            else:
                self.assertEqual(levels_of(rules), tuple(sorted(wanted.items())), rules)

    def test_each_level_is_asked_for(self):
        asked = 0
        for rules, facts in draws.pairs(24, 200):
            levels = dict(levels_of(rules))
            self.assertTrue(reckoning.fits(rules, levels))
            for kind, level in levels.items():
                wishes = [
                    levels[atom[0]] + (mark == "no") for head, body in rules for mark, atom in body if head[0] == kind
                ]
                self.assertTrue(level == 0 or level in wishes)
                asked += level > 0
        self.assertGreater(asked, 50)


class NoLevelsAtAll(Case):
    def test_rings(self):
        for rules in WITHOUT_LEVELS:
            self.refused(rules)

    def test_every_choice_of_marks(self):
        for kinds in ("p", "pq", "pqr", "pqrs"):
            for number in range(2 ** len(kinds)):
                marks = tuple("no" if number >> place & 1 else "yes" for place in range(len(kinds)))
                rules = ring(kinds, marks)
                if "no" in marks:
                    self.refused(rules)
                    self.refused(rules[::-1])
                else:
                    self.assertEqual(len(levels_of(rules)), len(kinds))

    def test_beside_other_rules(self):
        self.assertEqual(len(levels_of(BESIDE)), 5)
        for rules in WITHOUT_LEVELS:
            self.refused(BESIDE + rules)
            self.refused(rules + BESIDE)
            self.refused(BESIDE[:2] + rules + BESIDE[2:])

    def test_a_ring_that_hangs_on_others_and_on_which_others_hang(self):
        for rules in WITHOUT_LEVELS:
            self.refused((rule("x", (), no("q"), no("y")), rule("p", (), yes("x"), no("z"))) + rules)
            self.refused((rule("y", (), no("p")), rule("x", (), no("y"))) + rules)

    def test_two_rings(self):
        self.refused(ring("pq", ("yes", "yes")) + ring("rs", ("no", "yes")))
        self.refused(ring("pq", ("no", "yes")) + ring("rs", ("no", "yes")))
        self.refused(ring("pq", ("yes", "yes")) + ring("qr", ("no", "yes")))

    def test_long_rings(self):
        kinds = "abcdefghijklmnop"
        for place in range(16):
            marks = ["yes"] * 16
            marks[place] = "no"
            self.refused(ring(kinds, tuple(marks)))

    def test_what_takes_it(self):
        for wider in (NoLevels, HallError, ValueError):
            for rules in WITHOUT_LEVELS:
                with self.assertRaises(wider):
                    levels_of(rules)


class Refused(Case):
    """2.2: with rules that have no levels, whatever else is handed in."""

    def refusing(self, call, rules):
        for wider in (NoLevels, HallError, ValueError):
            with self.assertRaises(wider) as taken:
                call()
            self.assertIs(type(taken.exception), NoLevels)
        self.assertTrue(reckoning.is_ring(rules, taken.exception.ring))

    def test_models(self):
        for rules in WITHOUT_LEVELS + tuple(BESIDE + rules for rules in WITHOUT_LEVELS):
            for facts in ((), (("x", ()),), (("x", ()), ("y", ("a",)))):
                for asked in (model, ranks, kept, broken):
                    self.refusing(lambda: asked(rules, facts), rules)

    def test_facts_that_would_settle_the_ring(self):
        rules = (rule("p", (), no("p")),)
        for asked in (model, ranks, kept, broken):
            self.refusing(lambda: asked(rules, (("p", ()),)), rules)

    def test_bodies_that_never_hold(self):
        rules = (rule("p", (), yes("q"), no("p")),)
        for asked in (model, ranks, kept, broken):
            self.refusing(lambda: asked(rules, ()), rules)

    def test_accepted_of_a_reason_and_of_none(self):
        facts = (("x", ()),)
        for rules in WITHOUT_LEVELS:
            for reason in ((("given", ("x", ())),), (("given", ("y", ())),), (("by", 0, ("p", ()), ()),)) + JUNK:
                self.refusing(lambda: accepted(rules, facts, reason), rules)

    def test_reason_of_a_fact_that_is_there_and_of_one_that_is_not(self):
        for rules in WITHOUT_LEVELS:
            for fact in (("x", ()), ("y", ()), ("p", ()), ("nowhere", ("nobody",))):
                self.refusing(lambda: reason_of(rules, (("x", ()),), fact), rules)

    def test_questions(self):
        facts = (("x", ()), ("y", ("a",)))
        for rules in WITHOUT_LEVELS + tuple(BESIDE + rules for rules in WITHOUT_LEVELS):
            # Of the ring, beside it, of given facts, and of none.
            for kind in ("p", "a", "e", "x", "y", "nowhere"):
                self.refusing(lambda: needed(rules, kind), rules)
                self.refusing(lambda: narrowed(rules, facts, kind), rules)
                for terms in ((), ("A",), ("a",), ("A", "b", "A")):
                    self.refusing(lambda: answers(rules, facts, (kind, terms)), rules)
                    self.refusing(lambda: answers(rules, (), (kind, terms)), rules)

    def test_halls(self):
        for rules in WITHOUT_LEVELS + tuple(BESIDE + rules for rules in WITHOUT_LEVELS):
            for facts in ((), (("p", ()),), (("x", ()), ("y", ("a",))), facts_of(64), facts_of(70)):
                self.refusing(lambda: Hall(rules, facts), rules)

    def test_unfolded_at_places_and_at_none(self):
        for rules in WITHOUT_LEVELS + tuple(BESIDE + rules for rules in WITHOUT_LEVELS):
            for number in (0, 1, len(rules) - 1, len(rules), -1, 100, -100):
                for place in (0, 1, 2, -1, 4, 100, -100):
                    self.refusing(lambda: unfolded(rules, number, place), rules)

    def test_unfolded_where_there_is_no_room(self):
        wide = (rule("a", (), yes("b"), yes("b"), yes("b"), yes("c")), rule("b", (), yes("c"), yes("d")))
        many = (rule("a", (), yes("b")),) + (rule("b", ()),) * 15
        for rules in WITHOUT_LEVELS:
            for more in (wide, many, wide + many):
                for place in (0, 1, -1, 4):
                    self.refusing(lambda: unfolded(more + rules, 0, place), more + rules)
                    self.refusing(lambda: unfolded(rules + more, len(rules), place), rules + more)

    def test_rings_of_yes_literals_are_no_ground(self):
        for kinds in ("p", "pq", "pqr", "pqrs"):
            rules = ring(kinds, ("yes",) * len(kinds)) + BESIDE
            self.assertEqual(needed(rules, "p"), tuple(kinds))
            self.assertEqual(answers(rules, (("p", ()),), ("p", ())), (("p", ()),))
            self.assertEqual(narrowed(rules, (), "p"), (rules[:len(kinds)], ()))
            self.assertEqual(Hall(rules, ()).put(("p", ())), (tuple((kind, ()) for kind in kinds), ()))
            self.assertEqual(len(unfolded(rules, 0, 0)), len(rules))

    def test_drawn_rules(self):
        source = random.Random(25)
        without = 0
        for turn in range(300):
            rules, facts = draws.drawn_pair(source, with_levels=False)
            if reckoning.raised_levels(rules) is not None:
                model(rules, facts)
                continue
            without += 1
            self.refused(rules)
            for asked in (model, ranks, kept, broken):
                self.refusing(lambda: asked(rules, facts), rules)
            self.refusing(lambda: accepted(rules, facts, None), rules)
            self.refusing(lambda: reason_of(rules, facts, ("x", ())), rules)
            self.refusing(lambda: Hall(rules, facts), rules)
            for kind in draws.KINDS:
                self.refusing(lambda: needed(rules, kind), rules)
                self.refusing(lambda: narrowed(rules, facts, kind), rules)
                self.refusing(lambda: answers(rules, facts, (kind, ("A",) * draws.COUNTS[kind])), rules)
            for number in range(-1, len(rules) + 1):
                for place in range(-1, 5):
                    self.refusing(lambda: unfolded(rules, number, place), rules)
        self.assertGreater(without, 50)


if __name__ == "__main__":
    unittest.main()
