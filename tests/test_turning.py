import itertools
import random
import unittest

import draws
import reckoning
import remaking
from rulehall.models import model
from rulehall.reading import read
from rulehall.things import is_rule
from rulehall.turning import covers, lean, plain, turned
from samples import no, numbered, rule, yes

DRAWN = draws.pairs(91, 200)
RULES = [one for rules, facts in DRAWN for one in rules]
NAMES = [letter + figure for figure in ("", "1") for letter in remaking.CAPITALS]


def one(text):
    """The rule of a row without its first word."""
    return read("rule " + text + "\n")[0][0]


def renamed(source, some):
    """The rule under other variables, one to one, some of them called as others were."""
    variables = reckoning.variables_in(some)
    pool = sorted(set(variables) | {"A", "B", "C", "Z", "A0", "B9", "Z1"})
    return remaking.with_terms(some, dict(zip(variables, source.sample(pool, len(variables)))))


def covered_by(source, some):
    """A rule that this one covers: with terms for variables, with more literals, and in another order."""
    variables = reckoning.variables_in(some)
    terms = {variable: source.choice(("A", "B", "C", variable, variable, "a")) for variable in variables}
    head, body = remaking.with_terms(some, terms)
    more = source.choice(RULES)[1][:source.randint(0, 2)]
    return (head, tuple(source.sample(body + more, len(body + more))))


def are_alike(some, other):
    """By trying all renamings one to one."""
    old, new = reckoning.variables_in(some), reckoning.variables_in(other)
    if len(old) != len(new):
        return False
    return any(remaking.with_terms(some, dict(zip(old, names))) == other for names in itertools.permutations(new))


class Plain(unittest.TestCase):
    def told(self, text, wanted):
        self.assertEqual(plain(one(text)), one(wanted))
        self.assertEqual(plain(one(wanted)), one(wanted))

    def test_no_variables(self):
        for text in ("p", "p a b c", "p a if q b and not r c d", "yes no if no yes and not yes no"):
            self.told(text, text)

    def test_plain_ones_already(self):
        for text in ("p A if q A", "p A B if q A B C and r C D", "p if q A and not r A and q B"):
            self.told(text, text)

    def test_head_first(self):
        self.told("p B if q A B", "p A if q B A")
        self.told("p C A if q A B C and r D", "p A B if q B C A and r D")
        self.told("p Z9 X if q X and q Z9", "p A B if q B and q A")

    def test_body_in_order(self):
        self.told("p if q C and r B A and q A", "p if q A and r B C and q C")
        self.told("p if not q Z and r Y and s Z", "p if not q A and r B and s A")

    def test_names_in_another_order(self):
        self.told("p B A if q A B", "p A B if q B A")
        self.told("p C B A if q A B C", "p A B C if q C B A")
        self.told("p B C A if q A B C", "p A B C if q C A B")

    def test_variables_with_figures(self):
        self.told("p A1 if q A1 A A2", "p A if q A B C")
        self.told("p A0 B0 if q B0 A0 and r A", "p A B if q B A and r C")

    def test_a_variable_twice(self):
        self.told("p X X if q X Y X and not r Y Y", "p A A if q A B A and not r B B")

    def test_words_among_variables(self):
        self.told("p a X b if q b X Y and r a Y", "p a A b if q b A B and r a B")

    def test_as_many_variables_as_may_be(self):
        names = ["Z9", "M", "A", "L", "B7", "C", "K", "A1", "A0", "D", "E", "B"]
        body = [yes(kind, *names[3 * place:3 * place + 3]) for place, kind in enumerate("qrst")]
        wanted = [yes(kind, *NAMES[3 * place:3 * place + 3]) for place, kind in enumerate("qrst")]
        some = rule("p", (), *body)
        self.assertIs(is_rule(some), True)
        self.assertEqual(plain(some), rule("p", (), *wanted))
        self.assertEqual(plain(rule("p", ("B", "E"), *body))[0], ("p", ("A", "B")))
        self.assertEqual(plain(rule("p", ("B", "E"), *body))[1][3], yes("t", "L", "B", "A"))

    def test_more_variables_than_a_rule_has(self):
        old = [letter + figure for figure in ("7", "5") for letter in remaking.CAPITALS]
        body = [yes("q", *old[place:place + 3]) for place in range(0, 30, 3)]
        wanted = [yes("q", *NAMES[place:place + 3]) for place in range(0, 30, 3)]
        self.assertEqual(plain(rule("p", (), *body)), rule("p", (), *wanted))
        self.assertEqual(wanted[8], yes("q", "Y", "Z", "A1"))

    def test_drawn(self):
        source = random.Random(92)
        other = 0
        for some in RULES:
            found = plain(some)
            self.assertEqual(found, remaking.plain(some))
            self.assertEqual(plain(found), found)
            self.assertIs(is_rule(found), True)
            self.assertEqual(plain(renamed(source, some)), found)
            other += found != some
        self.assertGreater(other, 100)

    def test_alike_or_not(self):
        source = random.Random(93)
        alike = 0
        for turn in range(3000):
            some = source.choice(RULES)
            other = source.choice(RULES)
            if turn % 2:
                terms = {variable: source.choice("ABCD") for variable in reckoning.variables_in(some)}
                other = remaking.with_terms(some, terms)
            self.assertEqual(plain(some) == plain(other), are_alike(some, other), (some, other))
            alike += some != other and plain(some) == plain(other)
        self.assertGreater(alike, 100)

    def test_rules_that_are_not_alike(self):
        texts = (
            "p A if q A B", "p A if q B A", "p A if q A A", "p a if q a B", "p A if q A b", "p A if q A B and q A C",
            "p A if q A B and q A B", "p A if q A B and q A A", "r A if q A B", "p A if r A B", "p A if q A B and r",
            "p A if r and q A B", "p A if q A B and not r",
        )
        for place, text in enumerate(texts):
            for other in texts[:place]:
                self.assertNotEqual(plain(one(text)), plain(one(other)))


class Turned(unittest.TestCase):
    def told(self, text, names, wanted):
        self.assertEqual(turned(one(text), names), one(wanted))
        self.assertEqual(remaking.turned(one(text), names), one(wanted))

    def test_no_names(self):
        for some in RULES[:50]:
            self.assertEqual(turned(some, {}), some)

    def test_kinds(self):
        self.told("p A if q A and not r A", {"p": "x", "q": "y", "r": "z"}, "x A if y A and not z A")
        self.told("p A if p A and not q A and p a", {"p": "x"}, "x A if x A and not q A and x a")

    def test_words(self):
        self.told("p a b if q a A and not r b", {"a": "x", "b": "y"}, "p x y if q x A and not r y")

    def test_a_word_that_is_a_kind_too(self):
        self.told("p p if q p A and not p q", {"p": "x"}, "x x if q x A and not x q")

    def test_names_that_turn_two_words_about(self):
        self.told("p a b if q b a and not p q p", {"a": "b", "b": "a"}, "p b a if q a b and not p q p")
        self.told("p a q if q a p and not p q p", {"p": "q", "q": "p"}, "q a p if p a q and not q p q")

    def test_each_is_turned_once(self):
        self.told("p a b c if a", {"a": "b", "b": "c", "c": "a"}, "p b c a if b")
        self.told("p a", {"a": "p", "p": "q"}, "q p")

    def test_words_that_become_one(self):
        self.told("p a if q a b and not r b", {"a": "c", "b": "c"}, "p c if q c c and not r c")
        self.told("p a if q a", {"q": "p"}, "p a if p a")

    def test_names_of_no_part(self):
        self.told("p A if q A", {"x": "y", "a": "b"}, "p A if q A")

    def test_the_marks_stay(self):
        names = {"yes": "no", "no": "yes"}
        self.told("p if q and not r", names, "p if q and not r")
        self.told("yes no if no yes and not yes yes", names, "no yes if yes no and not no no")
        self.assertEqual(turned(one("p if q and not r"), names)[1], (yes("q"), no("r")))
        self.told("p yes if q no and not r yes", {"yes": "x"}, "p x if q no and not r x")

    def test_the_variables_stay(self):
        self.told("p A B1 if q A B1 a", {"a": "b"}, "p A B1 if q A B1 b")
        self.told("p A B1 if q A B1 a", {"A": "b", "B1": "c", "B": "d"}, "p A B1 if q A B1 a")

    def test_the_names_stay(self):
        names = {"p": "q", "a": "b"}
        turned(one("p a if q a and not r p"), names)
        self.assertEqual(names, {"p": "q", "a": "b"})
        self.assertEqual(list(names), ["p", "a"])

    def test_drawn(self):
        source = random.Random(94)
        pool = list(draws.WORDS) + list(draws.KINDS) + ["x", "y", "yes", "no"]
        for some in RULES:
            names = {word: source.choice(pool) for word in source.sample(pool, 6)}
            self.assertEqual(turned(some, names), remaking.turned(some, names))
            other = dict(zip(pool, source.sample(pool, len(pool))))
            back = {word: key for key, word in other.items()}
            self.assertEqual(turned(turned(some, other), back), some)


class Covers(unittest.TestCase):
    def told(self, text, other, wanted):
        self.assertIs(covers(one(text), one(other)), wanted, (text, other))
        self.assertIs(remaking.covers(one(text), one(other)), wanted)

    def test_itself(self):
        for some in RULES:
            self.assertIs(covers(some, some), True)

    def test_words_for_variables(self):
        self.told("p A if q A B", "p a if q a B", True)
        self.told("p A if q A B", "p a if q a a", True)
        self.told("p a if q a B", "p A if q A B", False)
        self.told("p A if q A a", "p A if q A b", False)
        self.told("p A if q A and r B", "p a if q a and r b", True)

    def test_variables_made_one(self):
        self.told("p A B if q A B", "p A A if q A A", True)
        self.told("p A A if q A A", "p A B if q A B", False)
        self.told("p A if q A B and q B C", "p A if q A A", True)
        self.told("p A if q A A", "p A if q A B and q B C", False)

    def test_literals_more(self):
        self.told("p A if q A", "p A if q A and r A", True)
        self.told("p A if q A", "p A if r A and q A and not s A", True)
        self.told("p A if q A and r A", "p A if q A", False)
        self.told("p", "p if q", True)
        self.told("p", "p if not q", True)
        self.told("p if q", "p", False)

    def test_literals_in_another_order(self):
        self.told("p A if q A B and not r A and q B A", "p A if not r A and q B A and q A B", True)
        self.told("p A if q A B and r B", "p X if r Y and q X Y", True)

    def test_one_literal_for_two(self):
        self.told("p A if q A B and q A C", "p A if q A B", True)
        self.told("p A if q A B", "p A if q A B and q A C", True)
        self.told("p if q A and q A and q A", "p if q B", True)

    def test_other_heads(self):
        self.told("p A if q A", "r A if q A", False)
        self.told("p if q A", "p A if q A", False)
        self.told("p A B if q A B", "p B A if q A B", False)
        self.told("p A if q A B", "p B if q A B", False)
        self.told("p A if q A", "p a if q A", False)
        self.told("p a", "p b", False)
        self.told("p a", "p a", True)

    def test_marks(self):
        self.told("p A if q A and not r A", "p A if q A and r A", False)
        self.told("p A if q A and r A", "p A if q A and not r A", False)
        self.told("p if not q", "p if q", False)
        self.told("p if q", "p if not q", False)
        self.told("p A if q A and not r A", "p a if not r a and q a", True)

    def test_variables_of_the_same_name(self):
        self.told("p A B if q A B", "p B A if q B A", True)
        self.told("p A B if q B A", "p B A if q A B", True)
        self.told("p A if q A B and r B", "p B if q B A and r A", True)
        self.told("p A if q A B and r B", "p B if q B A and r B", False)
        self.told("p B A if q A A and q B C", "p A B if q B B and q A A", True)

    def test_a_choice_that_must_be_taken_back(self):
        self.told("p if q A B and q B C and r C", "p if q a b and q c d and q d e and r e", True)
        self.told("p if q A B and q B C and r C", "p if q a b and q c d and q e f and r f", False)
        self.told("p if q A B and r B C and q C A", "p if q X Y and r Y Z and q Z X and q Y Z", True)
        self.told("p if q A and r A and s A", "p if q a and r a and s b and q b", False)
        self.told("p if q A and r A", "p if q a and r b and s b and q b", True)

    def test_other_numbers_of_terms(self):
        self.assertIs(covers(rule("p", (), yes("q", "A")), rule("p", (), yes("q", "A", "B"))), False)
        self.assertIs(covers(rule("p", ("A",), yes("q", "A")), rule("p", ("A", "A"), yes("q", "A"))), False)

    def test_longer_rules(self):
        chain = [yes("q", left, right) for left, right in zip("ABCDEFGHI", "BCDEFGHIJ")]
        loop = rule("p", (), yes("q", "A", "A"))
        self.assertIs(covers(rule("p", (), *chain), loop), True)
        self.assertIs(covers(loop, rule("p", (), *chain)), False)
        self.assertIs(covers(rule("p", (), *chain[:-1]), rule("p", (), *chain)), True)
        self.assertIs(covers(rule("p", (), *chain), rule("p", (), *chain[:-1])), False)

    def test_made_of_the_rule(self):
        source = random.Random(95)
        for some in RULES:
            other = covered_by(source, some)
            self.assertIs(covers(some, other), True, (some, other))

    def test_drawn(self):
        source = random.Random(96)
        counts = {True: 0, False: 0}
        for turn in range(3000):
            some = source.choice(RULES)
            other = covered_by(source, some)
            if turn % 3 == 0:
                some, other = other, some
            elif turn % 3 == 1:
                other = (other[0], other[1][1:])
            if len(reckoning.variables_in(some)) < 5:
                found = covers(some, other)
                self.assertIs(found, remaking.covers(some, other), (some, other))
                counts[found] += 1
        self.assertGreater(min(counts.values()), 500, counts)

    def test_drawn_of_one_kind(self):
        source = random.Random(97)
        counts = {True: 0, False: 0}
        for turn in range(3000):
            pair = [draws.drawn_rule(source, "p", ("q", "u"), ("u",)) for step in range(2)]
            found = covers(*pair)
            self.assertIs(found, remaking.covers(*pair), pair)
            counts[found] += 1
        self.assertGreater(min(counts.values()), 100, counts)


class Lean(unittest.TestCase):
    def told(self, texts, *wanted):
        rules = tuple(one(text) for text in texts)
        self.assertEqual(lean(rules), tuple(rules[number] for number in wanted))
        self.as_told(rules)

    def as_told(self, rules):
        found = lean(rules)
        self.assertIs(type(found), tuple)
        places = []
        for number, some in enumerate(rules):
            others = [(place, other) for place, other in enumerate(rules) if place != number]
            above = [(place, other) for place, other in others if remaking.covers(other, some)]
            if all(remaking.covers(some, other) and place > number for place, other in above):
                places.append(number)
        self.assertEqual(found, tuple(rules[number] for number in places), rules)
        for number, some in enumerate(rules):
            if number not in places:
                self.assertTrue(any(remaking.covers(other, some) for other in found))
        for some, other in itertools.permutations(found, 2):
            self.assertFalse(remaking.covers(some, other))

    def test_none(self):
        self.told(())

    def test_one(self):
        self.told(("p A if q A",), 0)
        self.told(("p A if q A and q A",), 0)

    def test_nothing_to_throw_out(self):
        self.told(("p A if q A", "p A if r A", "s", "p a", "q a if p a", "p b if not t"), *range(6))

    def test_a_rule_that_another_covers(self):
        self.told(("p A if q A", "p a if q a"), 0)
        self.told(("p a if q a", "p A if q A"), 1)
        self.told(("p A if q A and r A", "s", "p A if q A", "p A if q A and not t"), 1, 2)

    def test_a_rule_without_a_body(self):
        self.told(("p if q", "p", "p if not r", "q"), 1, 3)

    def test_rules_that_cover_one_another(self):
        self.told(("p A if q A", "p B if q B", "p A if q A"), 0)
        self.told(("p A if q A B", "p A if q A B and q A C", "p A if q A C and q A B"), 0)
        self.told(("p A if q A B and q A C", "p A if q A B"), 0)
        self.told(("s", "p A if q A B and q A B", "s if p A", "p Z if q Z Y", "s"), 0, 1)

    def test_several_that_one_covers_which_cover_one_another(self):
        self.told(("p a if q a B", "p a if q a C", "p A if q A B"), 2)
        self.told(("p a if q a B", "p A if q A B", "p a if q a C", "p A if q A C"), 1)

    def test_a_row_of_rules_that_cover_the_next(self):
        texts = ("p if q A B", "p if q A B and q B A", "p if q A B and q B A and r", "p if q A A and r")
        for order in itertools.permutations(range(4)):
            self.told([texts[number] for number in order], order.index(0))

    def test_rules_that_share_no_head(self):
        self.told(("p A if q A", "r A if q A", "p a if q a and r a", "r a if q a"), 0, 1)

    def test_rules_without_levels(self):
        self.told(("p if not p", "p if not p and q", "q"), 0, 2)

    def test_more_rules_than_may_be(self):
        rules = tuple(rule("p", (name,)) for name in numbered(20))
        self.assertEqual(lean(rules), rules)
        self.assertEqual(lean(rules + rules), rules)
        self.assertEqual(lean((rule("p", ("A",), yes("q", "A")),) * 20), (rule("p", ("A",), yes("q", "A")),))

    def test_drawn(self):
        source = random.Random(98)
        less = 0
        for rules, facts in DRAWN:
            covered = [covered_by(source, some) for some in source.sample(rules, min(4, len(rules)))]
            covered = [some for some in covered if len(reckoning.variables_in(some)) < 5]
            more = list(rules) + covered
            source.shuffle(more)
            self.as_told(tuple(more))
            less += len(lean(tuple(more))) < len(more) - 1
        self.assertGreater(less, 80)

    def test_drawn_of_one_kind(self):
        source = random.Random(99)
        for turn in range(100):
            rules = tuple(draws.drawn_rule(source, "p", ("q", "u"), ("u",)) for step in range(8))
            self.as_told(rules)

    def test_the_model_stays(self):
        source = random.Random(100)
        less = 0
        for rules, facts in draws.pairs(101, 100) + draws.pairs(102, 60, with_no=False):
            fresh = []
            for some in rules:
                terms = {variable: source.choice("ABC") for variable in reckoning.variables_in(some)}
                fresh.append(remaking.with_terms((some[0], some[1] + some[1][:1]), terms))
            more = tuple(fresh) + rules
            found = lean(more)
            self.assertEqual(model(found, facts), model(rules, facts))
            self.assertEqual(model(lean(rules), facts), model(rules, facts))
            less += len(found) < len(more)
        self.assertGreater(less, 100)


if __name__ == "__main__":
    unittest.main()
