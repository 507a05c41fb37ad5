import random
import unittest

import draws
import judge
import reckoning
from rulehall.errors import AlreadyThere, HallError, NoThing, NotThere
from rulehall.halls import Hall
from rulehall.models import model
from rulehall.reading import read
from samples import JUNK, changed, deep, facts_of, no, rule, yes

PATHS, EDGES = read(
    "rule path A B if edge A B\nrule path A C if path A B and edge B C\nrule shut if not path a c\n"
    "fact edge a b\nfact edge b c\nfact path x y\n"
)


def edge(pair):
    return ("edge", tuple(pair))


def path(pair):
    return ("path", tuple(pair))


def is_fact(thing):
    return judge.shows(judge.SHOWN_FACT, thing)


class Case(unittest.TestCase):
    def stands(self, hall, rules, facts):
        self.assertEqual(hall.given(), facts)
        self.assertEqual(hall.now(), model(rules, facts))

    def refused(self, hall, refusal, asked, thing):
        before = (hall.given(), hall.now())
        with self.assertRaises(HallError) as taken:
            asked(thing)
        self.assertIs(type(taken.exception), refusal, thing)
        self.assertIsInstance(taken.exception, ValueError)
        self.assertEqual((hall.given(), hall.now()), before)


class Halls(Case):
    def test_what_it_is_made_of(self):
        hall = Hall(PATHS, EDGES)
        self.stands(hall, PATHS, EDGES)
        self.assertEqual(hall.now(), EDGES[:2] + (path("ab"), path("ac"), path("bc"), path("xy")))

    def test_an_empty_one(self):
        hall = Hall((), ())
        self.stands(hall, (), ())
        self.assertEqual(hall.put(("p", ())), ((("p", ()),), ()))
        self.stands(hall, (), (("p", ()),))
        self.assertEqual(hall.take(("p", ())), ((), (("p", ()),)))
        self.stands(hall, (), ())

    def test_rules_alone(self):
        hall = Hall((rule("p", (), no("q")),), ())
        self.assertEqual(hall.given(), ())
        self.assertEqual(hall.now(), (("p", ()),))

    def test_what_comes_by_a_put(self):
        hall = Hall(PATHS, EDGES)
        self.assertEqual(hall.put(edge("cd")), ((edge("cd"), path("ad"), path("bd"), path("cd")), ()))
        self.stands(hall, PATHS, EDGES[:2] + (edge("cd"),) + EDGES[2:])

    def test_what_goes_by_a_take(self):
        hall = Hall(PATHS, EDGES)
        self.assertEqual(hall.take(path("xy")), ((), (path("xy"),)))
        self.stands(hall, PATHS, EDGES[:2])

    def test_a_take_may_make_facts_come(self):
        hall = Hall(PATHS, EDGES)
        self.assertEqual(hall.take(edge("bc")), ((("shut", ()),), (edge("bc"), path("ac"), path("bc"))))

    def test_a_put_may_make_facts_go(self):
        hall = Hall(PATHS, (edge("bc"),))
        self.assertEqual(hall.put(edge("ab")), ((edge("ab"), path("ab"), path("ac")), (("shut", ()),)))
        hall = Hall((rule("p", (), no("q")), rule("r", (), no("p"))), ())
        self.assertEqual(hall.put(("q", ())), ((("q", ()), ("r", ())), (("p", ()),)))
        self.assertEqual(hall.take(("q", ())), ((("p", ()),), (("q", ()), ("r", ()))))

    def test_a_fact_that_follows_anyway(self):
        hall = Hall(PATHS, EDGES)
        self.assertEqual(hall.put(path("ac")), ((), ()))
        self.stands(hall, PATHS, EDGES[:2] + (path("ac"), path("xy")))
        self.assertEqual(hall.take(edge("bc")), ((), (edge("bc"), path("bc"))))
        self.assertEqual(hall.put(edge("bc")), ((edge("bc"), path("bc")), ()))
        self.assertEqual(hall.take(path("ac")), ((), ()))
        self.stands(hall, PATHS, EDGES)

    def test_facts_that_hold_one_another(self):
        rules = (rule("p", ("A",), yes("q", "A")), rule("q", ("A",), yes("p", "A")))
        hall = Hall(rules, (("p", ("a",)), ("q", ("a",))))
        self.assertEqual(hall.take(("p", ("a",))), ((), ()))
        self.assertEqual(hall.take(("q", ("a",))), ((), (("p", ("a",)), ("q", ("a",)))))
        self.stands(hall, rules, ())

    def test_kinds_that_no_rule_has(self):
        hall = Hall(PATHS, EDGES)
        self.assertEqual(hall.put(("zebra", ("a",))), ((("zebra", ("a",)),), ()))
        self.assertEqual(hall.put(("ape", ())), ((("ape", ()),), ()))
        self.stands(hall, PATHS, (("ape", ()),) + EDGES + (("zebra", ("a",)),))

    def test_there_and_back(self):
        hall = Hall(PATHS, EDGES)
        for fact in (edge("ca"), edge("cc"), ("shut", ()), path("bb")):
            came, went = hall.put(fact)
            self.assertEqual(hall.take(fact), (went, came))
            self.stands(hall, PATHS, EDGES)

    def test_all_out_and_in_again(self):
        hall = Hall(PATHS, EDGES)
        for count in range(len(EDGES)):
            hall.take(EDGES[count])
            self.stands(hall, PATHS, EDGES[count + 1:])
        for fact in EDGES[::-1]:
            hall.put(fact)
        self.stands(hall, PATHS, EDGES)

    def test_two_halls_do_not_know_of_one_another(self):
        one, other, third = Hall(PATHS, EDGES), Hall(PATHS, EDGES), Hall(PATHS, ())
        one.put(edge("cd"))
        other.take(edge("ab"))
        self.stands(one, PATHS, EDGES[:2] + (edge("cd"),) + EDGES[2:])
        self.stands(other, PATHS, EDGES[1:])
        self.stands(third, PATHS, ())
        self.stands(Hall(PATHS, EDGES), PATHS, EDGES)

    def test_what_was_told_stays(self):
        hall = Hall(PATHS, EDGES)
        given, now = hall.given(), hall.now()
        hall.take(edge("ab"))
        self.assertEqual((given, now), (EDGES, model(PATHS, EDGES)))

    def test_the_form(self):
        hall = Hall(PATHS, EDGES)
        for told in (hall.put(edge("ca")), hall.take(edge("ab")), (hall.given(), hall.now())):
            self.assertIs(type(told), tuple)
            self.assertEqual([type(part) for part in told], [tuple, tuple])
            for part in told:
                self.assertEqual(list(part), sorted(set(part)))

    def test_more_facts_than_may_be(self):
        facts = facts_of(70)
        hall = Hall((), facts)
        self.refused(hall, NoThing, hall.put, ("p", ("z",)))
        self.refused(hall, AlreadyThere, hall.put, facts[69])
        self.refused(hall, NotThere, hall.take, ("p", ("z",)))
        self.assertEqual(hall.take(facts[0]), ((), facts[:1]))


class Refusals(Case):
    def test_already_there(self):
        hall = Hall(PATHS, EDGES)
        for fact in EDGES:
            self.refused(hall, AlreadyThere, hall.put, fact)
        hall.put(edge("cd"))
        self.refused(hall, AlreadyThere, hall.put, edge("cd"))

    def test_not_there(self):
        hall = Hall(PATHS, EDGES)
        for fact in (edge("cd"), path("ab"), path("ac"), ("shut", ()), ("nowhere", ("a",)), ("nowhere", ())):
            self.refused(hall, NotThere, hall.take, fact)
        hall.take(edge("ab"))
        self.refused(hall, NotThere, hall.take, edge("ab"))

    def test_things_that_are_no_facts(self):
        hall = Hall(PATHS, EDGES)
        atoms = (("edge", ("a", "B")), ("edge", ("A", "B")), ("new", ("A",)), ("path", ("X", "y")))
        longer = (("new", tuple("abcd")), ("newcomers", ()), ("new", ("newcomers",)))
        lists = (["edge", ("a", "b")], ("edge", ["a", "b"]), ["edge", ["a", "b"]], [edge("ab")], (edge("ab"),), [[]])
        others = (PATHS, EDGES, PATHS[0], ("yes", edge("ab")), ("given", edge("ab")), deep(list), deep(tuple))
        kept = tuple((word, ()) for word in ("rule", "fact", "if", "and", "not"))
        for thing in atoms + longer + lists + others + kept:
            self.refused(hall, NoThing, hall.put, thing)
            self.refused(hall, NoThing, hall.take, thing)

    def test_any_thing(self):
        hall = Hall((), ())
        for thing in JUNK:
            if is_fact(thing):
                hall.put(thing)
                hall.take(thing)
            else:
                self.refused(hall, NoThing, hall.put, thing)
                self.refused(hall, NoThing, hall.take, thing)

    def test_changed_facts(self):
        facts = (("q", ("a", "b")), ("r", ()))
        counts = {"q": 2, "r": 0}
        taken = 0
        for fact in facts:
            for thing in changed(fact):
                hall = Hall((), facts)
                if not is_fact(thing) or counts.get(thing[0], len(thing[1])) != len(thing[1]):
                    self.refused(hall, NoThing, hall.put, thing)
                    self.refused(hall, NoThing, hall.take, thing)
                elif thing in facts:
                    self.refused(hall, AlreadyThere, hall.put, thing)
                else:
                    self.refused(hall, NotThere, hall.take, thing)
                    self.assertEqual(hall.put(thing), ((thing,), ()))
                    taken += 1
        self.assertGreater(taken, 10)

    def test_another_number_of_terms_than_in_the_rules(self):
        rules = (rule("p", ("A",), yes("q", "A", "B"), no("r", "A", "B", "A"), yes("s")),)
        counts = {"p": 1, "q": 2, "r": 3, "s": 0}
        for facts in ((), (("p", ("a",)),), (("q", ("a", "b")), ("s", ()))):
            hall = Hall(rules, facts)
            for kind, wanted in counts.items():
                for count in range(4):
                    if count != wanted:
                        self.refused(hall, NoThing, hall.put, (kind, ("a",) * count))
                        self.refused(hall, NoThing, hall.take, (kind, ("a",) * count))

    def test_another_number_of_terms_than_given_facts(self):
        hall = Hall(PATHS, EDGES)
        hall.put(("new", ("a",)))
        for terms in ((), ("a", "b"), ("a", "b", "c")):
            self.refused(hall, NoThing, hall.put, ("new", terms))
            self.refused(hall, NoThing, hall.take, ("new", terms))
        hall.put(("new", ("b",)))
        hall.take(("new", ("a",)))
        self.refused(hall, NoThing, hall.put, ("new", ()))
        hall.take(("new", ("b",)))
        self.refused(hall, NotThere, hall.take, ("new", ()))
        self.assertEqual(hall.put(("new", ())), ((("new", ()),), ()))
        self.refused(hall, NoThing, hall.put, ("new", ("a",)))

    def test_sixty_four_facts(self):
        facts = facts_of(64)
        hall = Hall((), facts[:63])
        self.assertEqual(hall.put(facts[63]), (facts[63:], ()))
        self.stands(hall, (), facts)
        for fact in facts:
            self.refused(hall, AlreadyThere, hall.put, fact)
        for fact in (("p", ("z",)), ("q", ())):
            self.refused(hall, NoThing, hall.put, fact)
            self.refused(hall, NotThere, hall.take, fact)
        self.refused(hall, NoThing, hall.put, ("p", ()))
        self.refused(hall, NoThing, hall.take, ("p", ()))
        self.refused(hall, NoThing, hall.take, None)
        hall.take(facts[5])
        self.assertEqual(hall.put(("p", ("z",))), ((("p", ("z",)),), ()))
        self.refused(hall, NoThing, hall.put, facts[5])

    def test_facts_that_follow_do_not_count(self):
        hall = Hall((rule("q", ("A",), yes("p", "A")),), facts_of(63))
        self.assertEqual(len(hall.now()), 126)
        self.assertEqual(hall.put(("q", ("aa",))), ((), ()))
        self.assertEqual(len(hall.given()), 64)
        self.refused(hall, NoThing, hall.put, ("q", ("ab",)))


class LongRows(Case):
    """0.2 (d) too"""

    def steps(self, hall, source, kinds, count):
        """Puts and takes in turn; each as it was told, with the model as it was ahead."""
        for turn in range(count):
            before = hall.now()
            given = hall.given()
            if given and source.random() < 0.5:
                yield before, hall.take(source.choice(given))
                continue
            fact = draws.drawn_atom(source, source.choice(kinds), draws.WORDS)
            if fact in given:
                self.refused(hall, AlreadyThere, hall.put, fact)
            else:
                yield before, hall.put(fact)

    def test_as_the_models_differ(self):
        source = random.Random(81)
        seen = {"came": 0, "went": 0, "both": 0}
        for rules, facts in draws.pairs(82, 120):
            hall = Hall(rules, facts)
            for before, told in self.steps(hall, source, draws.KINDS, 25):
                after = model(rules, hall.given())
                self.assertEqual(hall.now(), after)
                came, went = told
                self.assertEqual(came, tuple(fact for fact in after if fact not in before))
                self.assertEqual(went, tuple(fact for fact in before if fact not in after))
                seen["came"] += len(came) > 1
                seen["went"] += len(went) > 1
                seen["both"] += len(came) > 0 and len(went) > 0
        self.assertGreater(min(seen.values()), 50, seen)

    def test_as_the_second_reckoning(self):
        source = random.Random(83)
        for rules, facts in draws.pairs(84, 40):
            hall = Hall(rules, facts)
            for before, told in self.steps(hall, source, draws.KINDS[:4], 8):
                after = reckoning.model(rules, hall.given())
                self.assertEqual(set(hall.now()), after)
                self.assertEqual(set(told[0]), after - set(before))
                self.assertEqual(set(told[1]), set(before) - after)

    def test_given_facts_are_kept_in_step(self):
        source = random.Random(85)
        for rules, facts in draws.pairs(86, 30):
            hall = Hall(rules, facts)
            there = set(facts)
            for turn in range(20):
                fact = draws.drawn_atom(source, source.choice(draws.KINDS[:3]), draws.WORDS[:3])
                if fact in there:
                    self.refused(hall, AlreadyThere, hall.put, fact)
                    hall.take(fact)
                    there.remove(fact)
                else:
                    self.refused(hall, NotThere, hall.take, fact)
                    hall.put(fact)
                    there.add(fact)
                self.stands(hall, rules, tuple(sorted(there)))

    def test_what_came_and_went_adds_up(self):
        source = random.Random(87)
        for rules, facts in draws.pairs(88, 30):
            hall = Hall(rules, facts)
            whole = set(hall.now())
            for before, told in self.steps(hall, source, draws.KINDS, 15):
                self.assertTrue(whole.isdisjoint(told[0]))
                self.assertTrue(whole.issuperset(told[1]))
                whole = (whole | set(told[0])) - set(told[1])
            self.assertEqual(whole, set(model(rules, hall.given())))


if __name__ == "__main__":
    unittest.main()
