"""A rule that is walked bit by bit by one standing: what its letters lead to, and what stands."""

from poisonrules.olds import Olds
from poisonrules.serial import starts
from poisonrules.sides import Side, fixed_leaves
from poisonrules.terms import consts_of, inputs_of
from poisonrules.tuples import tuples_of
from poisonrules.walkedtests import WalkedTests


class Walk:
    """A rule by one standing. A pair is kept short, as (the number of its news, marked olds, unmarked olds)."""

    def __init__(self, rule, standing):
        leaves = fixed_leaves(rule, standing)
        self.fixed = tuples_of([(0, 1)] * len(leaves))
        # Of the fixed bits those of constants are the last; all tuples of them are numbered as they rise.
        self.many_looks = len(leaves) - len(consts_of(rule.old))
        self.many_tuples = 1 << len(consts_of(rule.old))
        self.const_places = {bits: at % self.many_tuples for at, bits in enumerate(self.fixed)}
        self.rule = rule
        self.new = Side(rule.new, rule, standing)
        self.old = Olds(Side(rule.old, rule, standing))
        self.tests = WalkedTests(rule)
        self.many_tested = len(self.tests.first())
        self.news = []
        self.numbers = {}
        self.ends = []
        self.known_moves = {}
        self.known_letters = {}
        self.known_ways = {}

    def letters(self):
        """All letters, rising."""
        return tuples_of([(0, 1)] * self.many_bits())

    def many_bits(self):
        """How many bits a letter has."""
        return len(self.fixed[0]) + self.new.many_mixed()

    def beginnings(self):
        """All short pairs at first, as their news rise."""
        marked, unmarked = self.old.masks_of([(1, *state) for state in starts(self.rule.old)])
        first = self.tests.first()
        return [(self.number_of(first + state), marked, unmarked) for state in starts(self.rule.new)]

    def number_of(self, news):
        """The number by which news are kept."""
        if news not in self.numbers:
            self.numbers[news] = len(self.news)
            self.news.append(news)
            self.ends.append(self.ending(news))
        return self.numbers[news]

    def ending(self, news):
        """How news end: as none, too, where not all tests hold."""
        many = self.many_tested
        return self.new.ending(news[many:]) if self.tests.hold(news[:many]) else "none"

    def stands(self, pair):
        """Whether a short pair stands."""
        number, marked, unmarked = pair
        end = self.ends[number]
        if end == "none" or (marked | unmarked) & self.old.ending_bad != 0:
            return True
        return end == "number" and marked & self.old.ending_number != 0

    def moves(self, number):
        """(fixed bits, new's bit, number behind, least such letter) of news by their number, letters rising."""
        if number not in self.known_moves:
            tested, state = self.parts_of_news(number)
            found = []
            for fixed in self.fixed:
                tested_behind = self.tests.behind(tested, fixed[self.many_looks:])
                for bit, behind, mixed in self.new.moves(state, fixed):
                    found.append((fixed, bit, self.number_of(tested_behind + behind), fixed + mixed))
            self.known_moves[number] = found
        return self.known_moves[number]

    def parts_of_news(self, number):
        """(the tests' numbers, the state of new) of news by their number."""
        news = self.news[number]
        return (news[:self.many_tested], news[self.many_tested:])

    def ways(self, pair):
        """(letter, short pair behind) of a short pair: for all fixed bits each pair behind, by its least letter."""
        number, marked, unmarked = pair
        return [(letter, (behind, *self.old.behind(marked, unmarked, fixed, bit)))
                for fixed, bit, behind, letter in self.moves(number)]

    def const_ways(self, pair):
        """For each tuple of the constants' bits, rising, the short pairs behind a short pair, each once."""
        if pair not in self.known_ways:
            number, marked, unmarked = pair
            found = [{} for _ in range(self.many_tuples)]
            for fixed, bit, behind, _ in self.moves(number):
                pair_behind = (behind, *self.old.behind(marked, unmarked, fixed, bit))
                found[self.const_places[fixed]][pair_behind] = True
            self.known_ways[pair] = [list(one) for one in found]
        return self.known_ways[pair]

    def by_letter(self, pair, letter):
        """The short pair to which a short pair comes by a letter."""
        number, marked, unmarked = pair
        fixed, bit, behind = self.move_by_letter(number, letter)
        return (behind, *self.old.behind(marked, unmarked, fixed, bit))

    def move_by_letter(self, number, letter):
        """(fixed bits, new's bit, number behind) of news by their number."""
        key = (number, letter)
        if key not in self.known_letters:
            tested, state = self.parts_of_news(number)
            many = len(self.fixed[0])
            fixed = letter[:many]
            bit, behind = self.new.by_letter(state, fixed, letter[many:])
            behind_all = self.tests.behind(tested, fixed[self.many_looks:]) + behind
            self.known_letters[key] = (fixed, bit, self.number_of(behind_all))
        return self.known_letters[key]

    def short(self, pair):
        """A pair, short."""
        news, olds = pair
        return (self.number_of(news), *self.old.masks_of(olds))

    def shown(self, pair):
        """A short pair as it is told."""
        number, marked, unmarked = pair
        return (self.news[number], self.old.shown(marked, unmarked))


def standings_of(rule):
    """All standings of rule, rising."""
    return tuples_of([(0, 1, 2)] * len(inputs_of(rule.old)))
