"""A ferry: a few places for words, and two sides that see each other's counts late."""

from bellferry.codes import code_of, number_of
from bellferry.signs import first_sight, first_sign, moved, sampled, shown, used
from bellferry.words import two_to


# Both sides show a count of their own and see the other's, so both are of one class.
class Side:
    def __init__(self, turn, stages):
        self.turn = turn
        self.total = 0
        self.sign = first_sign(code_of(0))
        self.sight = first_sight(code_of(0), stages)

    # The sign is shown at every ring, so its moment is that of the ring ahead.
    def ring_ahead(self):
        return self.sign[2]

    def less_the_seen(self):
        return (self.total - number_of(used(self.sight))) % self.turn

    def grow(self):
        self.total = self.total + 1

    def show_and_see(self, moment, choice, other_sign):
        seen = sampled(other_sign, self.ring_ahead(), choice)
        self.sign = shown(self.sign, code_of(self.total % self.turn), moment)
        self.sight = moved(self.sight, seen)
        return seen


# The places are signs of the giver's side, as they too may be seen amid a change.
class Ferry:
    def __init__(self, k, stages):
        self.places = [first_sign(0)] * two_to(k)
        self.giver = Side(two_to(k + 1), stages)
        self.taker = Side(two_to(k + 1), stages)

    def ring_giver(self, moment, choice, word):
        words = [place[0] for place in self.places]
        gives = word is not None and self.giver.less_the_seen() < len(words)
        if gives:
            words[self.giver.total % len(words)] = word
            self.giver.grow()
        self.places = [shown(self.places[k], words[k], moment) for k in range(len(words))]
        return (gives, self.giver.show_and_see(moment, choice, self.taker.sign))

    def ring_taker(self, moment, choice, wished):
        word = None
        if wished and self.taker.less_the_seen() != 0:
            place = self.places[self.taker.total % len(self.places)]
            word = sampled(place, self.taker.ring_ahead(), choice)
            self.taker.grow()
        return (word, self.taker.show_and_see(moment, choice, self.giver.sign))

    def counts(self):
        return (self.giver.total, self.taker.total)
