"""A hall: rules that stay, given facts that come and go, and the model of both."""

from rulehall.errors import AlreadyThere, NoThing, NotThere
from rulehall.models import model
from rulehall.things import MOST_FACTS, all_atoms_of, is_fact


class Hall:
    def __init__(self, rules, facts):
        self.rules = rules
        self.facts = tuple(sorted(facts))
        self.whole = model(rules, facts)

    def put(self, fact):
        self.refuse_misfit(fact)
        if fact in self.facts:
            raise AlreadyThere("the fact is given already")
        # Only here: a given fact that is put again would not be one more.
        if len(self.facts) >= MOST_FACTS:
            raise NoThing("there are as many given facts as may be")
        return self.turn_to(self.facts + (fact,))

    def take(self, fact):
        self.refuse_misfit(fact)
        if fact not in self.facts:
            raise NotThere("the fact is not given")
        return self.turn_to([other for other in self.facts if other != fact])

    def given(self):
        return self.facts

    def now(self):
        return self.whole

    def refuse_misfit(self, thing):
        if not is_fact(thing):
            raise NoThing("this is no fact")
        others = all_atoms_of(self.rules) + list(self.facts)
        if any([other[0] == thing[0] and len(other[1]) != len(thing[1]) for other in others]):
            raise NoThing("others of the fact's kind have another number of terms")

    def turn_to(self, facts):
        before = self.whole
        after = model(self.rules, facts)
        self.facts = tuple(sorted(facts))
        self.whole = after
        return (tuple(sorted(set(after) - set(before))), tuple(sorted(set(before) - set(after))))
