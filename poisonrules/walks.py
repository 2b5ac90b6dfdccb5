"""A rule that is walked bit by bit by one standing: what its letters lead to, and what stands."""

from poisonrules.olds import Olds
from poisonrules.serial import starts
from poisonrules.sides import Side, fixed_leaves
from poisonrules.terms import consts_of, inputs_of
from poisonrules.tuples import tuples_of
from poisonrules.walkedtests import WalkedTests


class Walk:
    """A rule by one standing. A pair is kept short, as (the number of its news, that of its olds), or by its place."""

    def __init__(self, rule, standing):
        leaves = fixed_leaves(rule, standing)
        self.fixed = tuples_of([(0, 1)] * len(leaves))
        # Of the fixed bits those of constants are the last; all tuples of them are numbered as they rise.
        self.many_looks = len(leaves) - len(consts_of(rule.old))
        self.many_tuples = 1 << len(consts_of(rule.old))
        self.const_places = {bits: at % self.many_tuples for at, bits in enumerate(self.fixed)}
        self.rule = rule
        self.new = Side(rule.new, rule, standing)
        self.olds = Olds(Side(rule.old, rule, standing))
        self.tests = WalkedTests(rule)
        self.many_tested = len(self.tests.first())
        self.news = []
        self.numbers = {}
        self.ends = []
        self.pairs = []
        self.places = {}
        self.known_moves = {}
        self.known_letters = {}
        self.known_ways = {}
        self.known_ahead = {}

    def letters(self):
        """All letters, rising."""
        return tuples_of([(0, 1)] * self.many_bits())

    def many_bits(self):
        """How many bits a letter has."""
        return len(self.fixed[0]) + self.new.many_mixed()

    def beginnings(self):
        """All short pairs at first, as their news rise."""
        olds = self.olds.number_of_told([(1, *state) for state in starts(self.rule.old)])
        first = self.tests.first()
        return [(self.number_of(first + state), olds) for state in starts(self.rule.new)]

    def number_of(self, news):
        """The number by which news are kept."""
        if news not in self.numbers:
            self.numbers[news] = len(self.news)
            self.news.append(news)
            self.ends.append(self.ending(news))
        return self.numbers[news]

    def ending(self, news):
        """How news end: as none, too, where not all tests hold."""
        many = self.many_tested
        return self.new.ending(news[many:]) if self.tests.hold(news[:many]) else "none"

    def stands(self, pair):
        """Whether a short pair stands."""
        number, olds = pair
        end = self.ends[number]
        return end == "none" or self.olds.may_be_bad(olds) or end == "number" and self.olds.may_be_new(olds)

    def moves(self, number):
        """Of news by their number, for all fixed bits, (these, a row of (new's bit, number behind, least letter))."""
        if number not in self.known_moves:
            tested, state = self.parts_of_news(number)
            found = []
            for fixed in self.fixed:
                behind = self.tests.behind(tested, fixed[self.many_looks:])
                found.append((fixed, [(bit, self.number_of(behind + state_behind), fixed + mixed)
                                      for bit, state_behind, mixed in self.new.moves(state, fixed)]))
            self.known_moves[number] = found
        return self.known_moves[number]

    def parts_of_news(self, number):
        """(the tests' numbers, the state of new) of news by their number."""
        news = self.news[number]
        return (news[:self.many_tested], news[self.many_tested:])

    def ways(self, pair):
        """(letter, short pair behind) of a short pair: for all fixed bits each pair behind, by its least letter."""
        number, olds = pair
        found = []
        for fixed, row in self.moves(number):
            olds_behind = self.olds.behind(olds, fixed)
            found.extend([(letter, (behind, olds_behind[bit])) for bit, behind, letter in row])
        return found

    def place_of(self, pair):
        """The place of a short pair."""
        if pair not in self.places:
            self.places[pair] = len(self.pairs)
            self.pairs.append(pair)
        return self.places[pair]

    def place_stands(self, place):
        """Whether the pair of a place stands."""
        return self.stands(self.pairs[place])

    def const_ways(self, place):
        """For each tuple of the constants' bits, rising, the places of all pairs behind that of a place."""
        if place not in self.known_ways:
            number, olds = self.pairs[place]
            found = [{} for _ in range(self.many_tuples)]
            for fixed, row in self.moves(number):
                olds_behind = self.olds.behind(olds, fixed)
                places = {self.place_of((behind, olds_behind[bit])): True for bit, behind, _ in row}
                found[self.const_places[fixed]].update(places)
            self.known_ways[place] = [list(one) for one in found]
        return self.known_ways[place]

    def places_ahead(self, place, bits):
        """The places of pairs whose ways are known from which the constants' bits of a number lead to that of place."""
        if len(self.known_ahead) == 0:
            for before, rows in self.known_ways.items():
                for number, row in enumerate(rows):
                    for behind in row:
                        self.known_ahead.setdefault((behind, number), []).append(before)
        return self.known_ahead[place, bits]

    def by_letter(self, pair, letter):
        """The short pair to which a short pair comes by a letter."""
        number, olds = pair
        fixed, bit, behind = self.move_by_letter(number, letter)
        return (behind, self.olds.behind(olds, fixed)[bit])

    def move_by_letter(self, number, letter):
        """(fixed bits, new's bit, number behind) of news by their number."""
        key = (number, letter)
        if key not in self.known_letters:
            tested, state = self.parts_of_news(number)
            many = len(self.fixed[0])
            fixed = letter[:many]
            bit, behind = self.new.by_letter(state, fixed, letter[many:])
            behind_all = self.tests.behind(tested, fixed[self.many_looks:]) + behind
            self.known_letters[key] = (fixed, bit, self.number_of(behind_all))
        return self.known_letters[key]

    def short(self, pair):
        """A pair, short."""
        news, olds = pair
        return (self.number_of(news), self.olds.number_of_told(olds))

    def shown(self, pair):
        """A short pair as it is told."""
        number, olds = pair
        return (self.news[number], self.olds.told(olds))


def standings_of(rule):
    """All standings of rule, rising."""
    return tuples_of([(0, 1, 2)] * len(inputs_of(rule.old)))
