import unittest

import judge
from rulehall.errors import NoText, NoThing
from rulehall.reading import read
from rulehall.things import are_facts, are_rules
from rulehall.writing import written
from samples import KEPT, changed, deep, facts_of, no, rule, rules_of, yes

PAIRS = (
    ("", (), ()),
    ("rule p\n", (rule("p", ()),), ()),
    ("rule p a\n", (rule("p", ("a",)),), ()),
    ("rule p a b c\n", (rule("p", ("a", "b", "c")),), ()),
    ("rule p if q\n", (rule("p", (), yes("q")),), ()),
    ("rule p if not q\n", (rule("p", (), no("q")),), ()),
    ("rule p A if q A\n", (rule("p", ("A",), yes("q", "A")),), ()),
    (
        "rule p A B1 if q A and not r A B1 and s B1\n",
        (rule("p", ("A", "B1"), yes("q", "A"), no("r", "A", "B1"), yes("s", "B1")),),
        (),
    ),
    (
        "rule p if not q and not q and not r a and s a b c\n",
        (rule("p", (), no("q"), no("q"), no("r", "a"), yes("s", "a", "b", "c")),),
        (),
    ),
    ("fact p\n", (), (("p", ()),)),
    ("fact p a\nfact p b\n", (), (("p", ("a",)), ("p", ("b",)))),
    (
        "fact abcdefgh a b c\nfact p\nfact q a b\n",
        (),
        (("abcdefgh", ("a", "b", "c")), ("p", ()), ("q", ("a", "b"))),
    ),
    (
        "rule path A B if edge A B\nrule path A C if path A B and edge B C\nfact edge a b\nfact edge b c\n",
        (
            rule("path", ("A", "B"), yes("edge", "A", "B")),
            rule("path", ("A", "C"), yes("path", "A", "B"), yes("edge", "B", "C")),
        ),
        (("edge", ("a", "b")), ("edge", ("b", "c"))),
    ),
    (
        "rule q\nrule p\nrule q\nfact a\nfact p\n",
        (rule("q", ()), rule("p", ()), rule("q", ())),
        (("a", ()), ("p", ())),
    ),
    ("rule yes no if no and not yes a\nfact no\n", (rule("yes", ("no",), yes("no"), no("yes", "a")),), (("no", ()),)),
    ("rule rules facts if iff andy and nots\n", (rule("rules", ("facts",), yes("iff", "andy"), yes("nots")),), ()),
)
SIGNS = " \nazAZ09_~-\r"


class Case(unittest.TestCase):
    def refused(self, texts):
        for text in texts:
            with self.assertRaises(NoText, msg=repr(text)):
                read(text)

    def as_judged(self, text):
        if not judge.is_writing(text):
            self.refused([text])
            return
        pair = read(text)
        self.assertIs(are_rules(pair[0]), True, repr(text))
        self.assertIs(are_facts(pair[1], pair[0]), True, repr(text))
        self.assertEqual(written(pair[0], pair[1]), text)


class Writing(Case):
    def test_texts_sign_by_sign(self):
        for text, rules, facts in PAIRS:
            self.assertEqual(written(rules, facts), text)

    def test_as_many_as_may_be(self):
        text = written(rules_of(16), facts_of(64))
        self.assertEqual(text.count("\n"), 80)
        self.assertTrue(text.startswith("rule p aa\nrule p ab\n"))
        self.assertTrue(text.endswith("fact p gc\nfact p gd\n"))
        self.assertEqual(text.index("fact"), text.index("rule p bf\n") + len("rule p bf\n"))

    def test_no_rules_are_not_written(self):
        one = rule("p", ())
        for rules in (
            None, True, 0, "", "rule p\n", [], [one], one, (one, None), (rule("p", ("A",)),), rules_of(17), (list(one),),
            (one, rule("p", ("a",))), (rule("p", (), no("q", "A")),), deep(tuple), deep(list),
        ):
            with self.assertRaises(NoThing, msg=repr(rules)):
                written(rules, ())

    def test_no_facts_are_not_written(self):
        one = ("p", ("a",))
        for facts in (
            None, True, 0, "", "fact p a\n", [], [one], one, (one, None), (one, one), (("p", ("b",)), one), (("p", ("A",)),),
            facts_of(65), (one, ("q", ()), ("q", ("a",))), (["p", ("a",)],), deep(tuple), deep(list),
        ):
            with self.assertRaises(NoThing, msg=repr(facts)):
                written((), facts)

    def test_facts_that_are_none_with_the_rules_are_not_written(self):
        rules = (rule("p", ("A",), yes("q", "A", "B"), no("r")),)
        for facts in ((("p", ()),), (("q", ("a",)),), (("r", ("a",)),)):
            self.assertEqual(read(written((), facts)), ((), facts))
            self.assertRaises(NoThing, written, rules, facts)

    def test_both_wrong(self):
        self.assertRaises(NoThing, written, None, None)
        self.assertRaises(NoThing, written, [], [])

    def test_each_change_is_written_or_refused(self):
        for text, rules, facts in PAIRS[-5:]:
            for thing in changed(rules):
                self.written_or_refused(thing, facts)
            for thing in changed(facts):
                self.written_or_refused(rules, thing)

    def written_or_refused(self, rules, facts):
        if judge.are_rules(rules) and judge.are_facts(facts, rules):
            self.assertEqual(read(written(rules, facts)), (rules, facts))
        else:
            self.assertRaises(NoThing, written, rules, facts)


class Reading(Case):
    def test_the_very_pair(self):
        for text, rules, facts in PAIRS:
            self.assertEqual(read(text), (rules, facts))
            self.assertIsInstance(read(text), tuple)

    def test_as_many_as_may_be(self):
        pair = (rules_of(16), facts_of(64))
        self.assertEqual(read(written(pair[0], pair[1])), pair)

    def test_rows_and_blanks(self):
        self.refused([
            "\n", "\n\n", " ", " \n", "rule p", "fact p", "rule p\nfact p", "rule p\n\n", "\nrule p\n", "rule p\n\nfact p\n",
            " rule p\n", "rule p \n", "rule  p\n", "rule p  a\n", "rule p if  q\n", "rule p  if q\n", "rule p if q  and r\n",
            "rule p if q and  r\n", "rule p if not  q\n", "rule p if  not q\n", "rule p if q \n", "fact  p\n", "fact p \n",
            " fact p\n", "fact p  a\n", "rule p\r\n", "rule p\rrule q\n", "rule p\n ", "rule\tp\n", "rulep\n", "factp\n",
        ])

    def test_marks_that_are_amiss(self):
        self.refused([
            "rule\n", "rule \n", "fact\n", "fact \n", "p\n", "rule rule p\n", "fact fact p\n", "Rule p\n", "FACT p\n",
            "rule p if\n", "rule p if \n", "rule if q\n", "rule p if q and\n", "rule p if q and \n", "rule p if and q\n",
            "rule p if q and and r\n", "rule p if if q\n", "rule p if q if r\n", "rule p and q\n", "rule p if not\n",
            "rule p if not not q\n", "rule p if not q not r\n", "rule not p\n", "rule p not q\n", "rule p if q r not s\n",
            "fact not p\n", "fact p if q\n", "fact p and q\n", "rule p if q and not\n", "rule p if q, r\n", "rules p\n",
            "rule p if q rule r\n", "rule p fact q\n", "if q\n", "not p\n",
        ])

    def test_order_of_rows(self):
        self.refused([
            "fact p\nrule p\n", "rule p\nfact p\nrule q\n", "fact q\nfact p\n", "fact p b\nfact p a\n", "fact p\nfact p\n",
            "fact p a\nfact p b\nfact p a\n",
        ])

    def test_rules_and_facts_that_are_none(self):
        self.refused([
            "fact p A\n", "rule p A\n", "rule p A if not q A\n", "rule p if not q A\n", "rule p if q A and not r B\n",
            "rule p\nrule p a\n", "rule p if p a\n", "fact p\nfact p a\n", "rule p\nfact p a\n", "rule q if p a b\nfact p a\n",
            "rule p a b c d\n", "fact p a b c d\n", "rule p if q a b c d\n", "rule p if q and q and q and q and q\n",
            "rule abcdefghi\n", "rule p abcdefghi\n", "rule p1\n", "rule P\n", "fact P\n", "rule p AB if q AB\n",
            "rule p A10 if q A10\n", "rule p A if q A1\n", "fact p_\n", "fact p a-b\n",
        ])

    def test_kept_words(self):
        for word in KEPT:
            self.refused([
                f"rule {word}\n", f"rule p {word}\n", f"rule p if {word}\n", f"rule p if q {word}\n",
                f"rule p if not {word}\n", f"fact {word}\n", f"fact p {word}\n", f"fact p a {word}\n",
            ])

    def test_too_many_rows(self):
        rules, facts = written(rules_of(16), ()), written((), facts_of(64))
        self.assertEqual(read(rules + facts), (rules_of(16), facts_of(64)))
        self.refused([rules + "rule p bg\n", rules + "rule p aa\n", facts + "fact p ge\n", rules + facts + "fact p zz\n"])

    def test_each_change_of_a_sign(self):
        for text, rules, facts in PAIRS:
            for place in range(len(text) + 1):
                behind = text[place + 1:]
                self.as_judged(text[:place] + behind)
                self.as_judged(text[:place] + text[place:place + 1] * 2 + behind)
                for sign in SIGNS:
                    self.as_judged(text[:place] + sign + behind)
                    self.as_judged(text[:place] + sign + text[place:])

    def test_each_change_of_a_part(self):
        for text, rules, facts in PAIRS:
            parts = text.split(" ")
            for place in range(len(parts)):
                self.as_judged(" ".join(parts[:place] + parts[place + 1:]))
                self.as_judged(" ".join(parts[:place] + parts[place:place + 1] + parts[place:]))
                for other in KEPT + ("a", "A", "p", ""):
                    self.as_judged(" ".join(parts[:place] + [other] + parts[place + 1:]))
                    self.as_judged(" ".join(parts[:place] + [other] + parts[place:]))

    def test_each_change_of_a_row(self):
        for text, rules, facts in PAIRS:
            rows = text.splitlines(keepends=True)
            for place in range(len(rows)):
                self.as_judged("".join(rows[:place] + rows[place + 1:]))
                self.as_judged("".join(rows[:place] + rows[place:place + 1] + rows[place:]))
                self.as_judged("".join(rows[place:] + rows[:place]))


class Judge(Case):
    def test_the_judge_takes_each_writing(self):
        for text, rules, facts in PAIRS:
            self.assertTrue(judge.is_writing(text), repr(text))
            self.assertTrue(judge.are_rules(rules))
            self.assertTrue(judge.are_facts(facts, rules))


if __name__ == "__main__":
    unittest.main()
