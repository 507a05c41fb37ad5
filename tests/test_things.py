import copy
import unittest

import judge
from rulehall.things import are_facts, are_rules, is_atom, is_rule
from samples import JUNK, KEPT, changed, deep, facts_of, no, numbered, rule, rules_of, yes

WORDS = ("a", "z", "abcdefgh", "stuvwxyz", "rules", "ru", "fac", "iff", "an", "nota", "yes", "no")
NO_WORDS = KEPT + (
    "", "abcdefghi", "Abc", "abC", "a1", "1a", "a_b", "a-b", "a b", " a", "a ", "a\n", "\na", "~", "`", "{", "@", "a'",
)
VARIABLES = ("A", "Z", "M", "A0", "Z9", "X5")
NO_VARIABLES = ("A10", "A00", "AB", "Aa", "A1b", "A1 ", "A ", " A", "1A", "A_", "A\n", "@", "[", "A/", "A:", "1", "9")

ATOMS = (
    ("p", ()), ("abcdefgh", ("abcdefgh",)), ("p", ("A",)), ("p", ("Z9", "a")), ("p", ("A", "A", "A")),
    ("p", ("a", "b", "c")), ("yes", ("p", "q")), ("no", ()),
)
RULES = (
    rule("p", ()),
    rule("p", ("a", "b", "c")),
    rule("p", ("A",), yes("q", "A")),
    rule("p", (), no("q")),
    rule("p", (), no("p")),
    rule("p", ("a",), no("q", "b"), no("q", "c")),
    rule("p", ("A", "B1"), yes("q", "A"), no("r", "A", "B1"), yes("s", "B1")),
    rule("p", ("A",), no("q", "A"), yes("q", "A")),
    rule("p", ("A", "B", "C"), yes("q", "A", "B"), yes("r", "B", "C"), no("q", "C", "A"), no("s")),
    rule("p", (), yes("q"), yes("q"), yes("q"), yes("q")),
    rule("p", ("A",), yes("p", "A", "B")),
)


class Case(unittest.TestCase):
    def each(self, asked, wanted, things):
        for thing in things:
            self.assertIs(asked(thing), wanted, repr(thing))


class Atoms(Case):
    def test_atoms(self):
        self.each(is_atom, True, ATOMS)

    def test_kinds(self):
        self.each(is_atom, True, [(word, ()) for word in WORDS])
        self.each(is_atom, False, [(other, ()) for other in NO_WORDS + VARIABLES + NO_VARIABLES])

    def test_every_sign_in_a_word(self):
        for code in range(32, 127):
            sign = chr(code)
            self.assertIs(is_atom((sign, ())), "a" <= sign <= "z")
            self.assertIs(is_atom(("a" + sign, ())), "a" <= sign <= "z")

    def test_every_sign_in_a_variable(self):
        for code in range(32, 127):
            sign = chr(code)
            self.assertIs(is_atom(("p", (sign,))), "a" <= sign <= "z" or "A" <= sign <= "Z")
            self.assertIs(is_atom(("p", ("A" + sign,))), "0" <= sign <= "9")

    def test_terms(self):
        for place in range(3):
            around = [("a", "B")[:place], ("a", "B")[place:]]
            for term in WORDS + VARIABLES:
                self.assertIs(is_atom(("p", around[0] + (term,) + around[1])), True)
            for other in NO_WORDS + NO_VARIABLES:
                self.assertIs(is_atom(("p", around[0] + (other,) + around[1])), False)

    def test_numbers_of_terms(self):
        self.each(is_atom, True, [("p", ("a",) * count) for count in range(4)])
        self.each(is_atom, False, [("p", ("a",) * count) for count in range(4, 9)])

    def test_lengths_of_the_tuple(self):
        self.each(is_atom, False, [(), ("p",), ("p", (), ()), ("p", "a"), ("p", ("a",), ("b",)), ("p", "a", "b")])

    def test_lists_are_none(self):
        self.each(is_atom, False, [["p", ()], ("p", []), ("p", ["a"]), ["p", ["a"]], (["p"], ()), ("p", (["a"],))])

    def test_a_text_for_the_terms_is_none(self):
        self.each(is_atom, False, [("p", ""), ("p", "abc"), ("p", "A"), "pa", "p"])

    def test_other_things(self):
        self.each(is_atom, False, [None, True, False, 0, 1, 7, "p", "", [], (), deep(tuple), deep(list)])
        self.each(is_atom, False, [("p", junk) for junk in (None, True, 0, 3, deep(tuple), deep(list))])
        self.each(is_atom, False, [(junk, ()) for junk in (None, True, 0, 3, (), deep(tuple), deep(list))])
        self.each(is_atom, False, [("p", (junk,)) for junk in (None, True, 0, 3, (), deep(tuple), deep(list))])

    def test_as_the_judge_says(self):
        for atom in ATOMS:
            for thing in changed(atom):
                self.assertIs(is_atom(thing), judge.is_atom(thing), repr(thing))


class Rules(Case):
    def test_rules(self):
        self.each(is_rule, True, RULES)

    def test_numbers_of_literals(self):
        self.each(is_rule, True, [rule("p", (), *[yes("q")] * count) for count in range(5)])
        self.each(is_rule, False, [rule("p", (), *[yes("q")] * count) for count in range(5, 9)])

    def test_marks_of_literals(self):
        atom = ("q", ())
        self.each(is_rule, True, [(("p", ()), ((mark, atom),)) for mark in ("yes", "no")])
        marks = ("", "y", "Yes", "NO", "yes ", "not", "maybe", None, True, False, 0, 1, (), [], ["yes"], ("yes",))
        self.each(is_rule, False, [(("p", ()), ((mark, atom),)) for mark in marks])

    def test_variables_of_the_head_stand_in_a_yes_literal(self):
        self.each(is_rule, False, [
            rule("p", ("A",)),
            rule("p", ("A",), no("q", "A")),
            rule("p", ("A",), yes("q", "B")),
            rule("p", ("A",), yes("q", "A1")),
            rule("p", ("A1",), yes("q", "A")),
            rule("p", ("A", "B"), yes("q", "A")),
            rule("p", ("A", "B"), yes("q", "A"), no("r", "B")),
        ])

    def test_variables_of_no_literals_stand_in_a_yes_literal(self):
        self.each(is_rule, False, [
            rule("p", (), no("q", "A")),
            rule("p", (), yes("q", "B"), no("q", "A")),
            rule("p", ("A",), yes("q", "A"), no("q", "A", "B")),
            rule("p", (), no("q", "A"), no("r", "A")),
        ])

    def test_a_kind_may_have_differing_numbers_of_terms_within_a_rule_alone(self):
        self.assertIs(is_rule(rule("p", ("A",), yes("p", "A", "B"))), True)

    def test_too_many_terms(self):
        self.each(is_rule, False, [rule("p", ("a",) * 4), rule("p", (), yes("q", "a", "a", "a", "a"))])

    def test_kept_words(self):
        for word in KEPT:
            self.each(is_rule, False, [
                rule(word, ()), rule("p", (word,)), rule("p", (), yes(word)), rule("p", (), no("q", word)),
            ])

    def test_other_things(self):
        head = ("p", ())
        self.each(is_rule, False, [junk for junk in JUNK if not isinstance(junk, tuple)] + [deep(tuple)])
        self.each(is_rule, False, [
            (), (head,), (head, (), ()), head, [head, ()], (head, []), (head, [yes("q")]), (head, (["yes", ("q", ())],)),
            (list(head), ()), (head, (yes("q")[1],)), (head, yes("q")), (head, None), (None, ()), (head, "yes"),
            (head, (("yes",),)), (head, (("yes", ("q", ()), ()),)), (head, ((),)), (head, (None,)), (head, (True,)),
        ])

    def test_as_the_judge_says(self):
        for one in RULES:
            for thing in changed(one):
                self.assertIs(is_rule(thing), judge.is_rule(thing), repr(thing))


class RulesTogether(Case):
    def test_none_and_one_and_some(self):
        self.each(are_rules, True, [(), RULES[:1], RULES[3:5]] + [(one,) for one in RULES[:-1]])

    def test_sixteen_and_more(self):
        self.each(are_rules, True, [rules_of(15), rules_of(16), rules_of(1) * 16])
        self.each(are_rules, False, [rules_of(17), rules_of(18), rules_of(1) * 17])

    def test_order_and_doubles_are_free(self):
        self.each(are_rules, True, [rules_of(9)[::-1], rules_of(3) + rules_of(3)])

    def test_differing_numbers_of_terms(self):
        within = (
            (rule("p", ("A",), yes("p", "A", "B")),),
            (rule("p", (), no("p", "a")),),
            (rule("p", (), yes("q"), no("q", "a")),),
            (rule("p", (), no("q", "a", "a"), no("q", "a")),),
        )
        between = (
            (rule("p", ()), rule("p", ("a",))),
            (rule("p", ("a",)), rule("q", (), yes("p"))),
            (rule("q", (), no("p", "a", "b")), rule("q", ()), rule("r", (), yes("p", "a"))),
        )
        self.each(are_rules, False, within + between)

    def test_a_word_may_be_a_kind_and_a_term(self):
        self.assertIs(are_rules((rule("p", ("p",), yes("q", "p")), rule("q", ("p",)))), True)

    def test_what_is_no_tuple_or_has_no_rules(self):
        one = RULES[0]
        self.each(are_rules, False, [
            [], [one], list(RULES[:2]), None, True, False, 0, 1, "", "rule p", one, ((),), (one, None), (None, one),
            (one, list(one)), (one, "p"), (one, 0), ((one,),), (one, rule("p", ("A",))), deep(tuple), deep(list),
        ])

    def test_as_the_judge_says(self):
        for rules in (RULES[:1] + RULES[3:4], (RULES[6],), RULES[8:9] + (rule("s", ()),)):
            for thing in changed(rules):
                self.assertIs(are_rules(thing), judge.are_rules(thing), repr(thing))


class FactsTogether(Case):
    def told(self, wanted, things, rules=()):
        for thing in things:
            self.assertIs(are_facts(thing, rules), wanted, repr(thing))

    def test_none_and_some(self):
        self.told(True, [(), (("p", ()),), (("p", ("a",)), ("p", ("b",)), ("q", ()), ("r", ("a", "b", "c")))])

    def test_sixty_four_and_more(self):
        self.told(True, [facts_of(63), facts_of(64)])
        self.told(False, [facts_of(65), facts_of(66)])

    def test_order(self):
        self.told(True, [
            (("a", ()), ("aa", ()), ("b", ())),
            (("p", ("a", "b")), ("p", ("aa", "a")), ("p", ("b", "a"))),
            (("p", ("z",)), ("q", ("a",))),
        ])
        self.told(False, [
            (("b", ()), ("a", ())),
            (("aa", ()), ("a", ())),
            (("p", ("b",)), ("p", ("a",))),
            (("p", ("a", "b")), ("p", ("a", "a"))),
            (("q", ("a",)), ("p", ("z",))),
            (("a", ()), ("c", ()), ("b", ())),
        ])

    def test_every_order_of_four(self):
        facts = facts_of(4)
        for first in facts:
            for second in facts:
                for third in facts:
                    picked = (first, second, third)
                    self.told(first < second < third, [picked])

    def test_doubles(self):
        self.told(False, [(("p", ()),) * 2, (("p", ("a",)), ("p", ("a",)), ("p", ("b",)))])

    def test_variables(self):
        self.told(False, [(("p", ("A",)),), (("p", ("a", "B1")),), (("p", ("a",)), ("p", ("b",)), ("q", ("Z",)))])

    def test_differing_numbers_of_terms_among_facts(self):
        self.told(False, [
            (("p", ()), ("p", ("a",))),
            (("p", ("a",)), ("p", ("a", "b"))),
            (("p", ("a",)), ("p", ("a", "b")), ("q", ())),
            (("p", ("a",)), ("p", ("b",)), ("p", ("c", "d"))),
        ])

    def test_differing_numbers_of_terms_with_the_rules(self):
        rules = (rule("p", ("A",), yes("q", "A", "B"), no("r")), rule("s", ("a", "b", "c")))
        self.told(True, [
            (), (("p", ("a",)),), (("q", ("a", "b")),), (("r", ()),), (("s", ("c", "b", "a")),), (("t", ()),),
            (("t", ("a", "b", "c")),), (("p", ("a",)), ("q", ("a", "b")), ("r", ()), ("s", ("a", "b", "c"))),
        ], rules)
        self.told(False, [
            (("p", ()),), (("p", ("a", "b")),), (("q", ("a",)),), (("r", ("a",)),), (("s", ()),),
            (("p", ("a",)), ("q", ("a",))), (("p", ("a",)), ("s", ("a", "b"))),
        ], rules)

    def test_what_is_no_tuple_or_has_no_facts(self):
        one = ("p", ("a",))
        self.told(False, [
            [], [one], None, True, False, 0, 1, "", "fact p a", one, ((),), (one, None), (None, one), (one, 0), (0, 1),
            (one, "p"), (one, ["p", ("b",)]), (one, ("p", ["b"])), ((one,),), (one, (one, ())), ("p", "q"),
            (one, ("p", ("a",) * 4)), (one, ("rule", ())), deep(tuple), deep(list), (one, deep(tuple)), (deep(list), one),
        ])

    def test_as_the_judge_says(self):
        facts = (("p", ("a",)), ("p", ("b",)), ("q", ()), ("r", ("a", "b")))
        for rules in ((), (rule("p", ("A",), yes("q"), yes("r", "A", "B")),)):
            for thing in changed(facts):
                self.assertIs(are_facts(thing, rules), judge.are_facts(thing, rules), repr(thing))


class NothingIsChanged(Case):
    def test_what_is_handed_in_stays(self):
        things = [["p", ["a"]], [["p", []], []], ([("p", ())],), [RULES[0]], [("p", ()), ("a", ())], deep(list)]
        kept = copy.deepcopy(things)
        rules = rules_of(2)
        for thing in things:
            for asked in (is_atom, is_rule, are_rules):
                self.assertIs(asked(thing), False)
            self.assertIs(are_facts(thing, rules), False)
        self.assertEqual(things, kept)
        self.assertEqual(rules, rules_of(2))

    def test_each_asking_stands_alone(self):
        self.assertIs(are_facts((("p", ()),), (rule("p", ("a",)),)), False)
        self.assertIs(are_facts((("p", ()),), ()), True)


class Samples(Case):
    def test_numbered_names_are_words(self):
        self.assertEqual(len(set(numbered(70))), 70)
        self.each(is_atom, True, [(name, ()) for name in numbered(70) if name not in KEPT])


if __name__ == "__main__":
    unittest.main()
