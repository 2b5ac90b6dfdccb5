"""Checks of the papers of machines, whoever wrote them."""

from poisonrules.machines import is_machine, rooms_ahead
from poisonrules.pairforms import are_olds, has_forms, is_standing, news_forms, olds_forms
from poisonrules.rules import Rule
from poisonrules.terms import inputs_of
from poisonrules.tuples import is_rising
from poisonrules.walks import Walk, standings_of
from poisonrules.wholes import is_whole


def weakest_holds(rule, machine, thing):
    """Whether machine is one of rule, and thing its paper, so that it is the weakest."""
    bare = Rule(rule.name, rule.old, rule.new)
    if not is_machine(rule, machine) or not isinstance(thing, tuple) or len(thing) != 2:
        return False
    if not all([are_pairs_in_rooms(part, bare, len(machine)) for part in thing]):
        return False
    walks = {standing: Walk(bare, standing) for standing in standings_of(bare)}
    keeps, shows = [[(room, standing, short_place(walks[standing], news, olds)) for room, standing, news, olds in part]
                    for part in thing]
    return are_keeps(machine, walks, keeps) and are_shows(machine, walks, shows)


def short_place(walk, news, olds):
    """The place of a pair."""
    return walk.place_of(walk.short((news, olds)))


def are_pairs_in_rooms(thing, rule, many_rooms):
    """Whether thing is a rising tuple of (room, standing, news, olds) of a rule without tests."""
    if not isinstance(thing, tuple):
        return False
    many_inputs = len(inputs_of(rule.old))
    news = news_forms(rule)
    olds = olds_forms(rule)
    return all([is_pair_in_room(one, many_rooms, many_inputs, news, olds) for one in thing]) and is_rising(thing)


def is_pair_in_room(thing, many_rooms, many_inputs, news, olds):
    """Whether thing is (room, standing, news, olds), the room one of so many but 0, the numbers of these forms."""
    if not isinstance(thing, tuple) or len(thing) != 4 or not is_whole(thing[0]) or not 0 < thing[0] < many_rooms:
        return False
    return is_standing(thing[1], many_inputs) and has_forms(thing[2], news) and are_olds(thing[3], olds)


def all_beginnings(walks):
    """(room 0, standing, place) of each beginning by each standing."""
    return [(0, standing, walk.place_of(pair)) for standing, walk in walks.items() for pair in walk.beginnings()]


def ways_from(machine, walks, room, standing, place):
    """(number of the constants' bits, room behind, number of news, number of olds) for all letters."""
    walk = walks[standing]
    rows = walk.const_ways(place)
    return [(bits, behind, *walk.pairs[one])
            for bits, (behind, row) in enumerate(zip(machine[room][1], rows)) for one in row]


def are_keeps(machine, walks, keeps):
    """Whether what a room that lets keeps stands, and all that comes of beginnings and keeps is kept."""
    kept = {}
    for room, standing, place in keeps:
        number, olds = walks[standing].pairs[place]
        kept.setdefault((room, standing, number), []).append(olds)
    for room, standing, place in all_beginnings(walks) + keeps:
        walk = walks[standing]
        if machine[room][0] and not walk.place_stands(place):
            return False
        for _, behind, number, olds in ways_from(machine, walks, room, standing, place):
            if not walk.olds.has_within(kept.get((behind, standing, number), []), olds):
                return False
    return True


def are_shows(machine, walks, shows):
    """Whether each room that does not let is shown, and each of shows comes of beginnings and shows in all ways."""
    refuted = {room: True for room, standing, place in shows if not walks[standing].place_stands(place)}
    if not all([let or room == 0 or room in refuted for room, (let, _) in enumerate(machine)]):
        return False
    come = {}
    for room, standing, place in all_beginnings(walks) + shows:
        for bits, _, number, olds in ways_from(machine, walks, room, standing, place):
            come.setdefault((room, bits, standing, number), []).append(olds)
    ahead = rooms_ahead(machine)
    for room, standing, place in shows:
        walk = walks[standing]
        number, olds = walk.pairs[place]
        for before, bits in ahead[room]:
            if not walk.olds.has_within(come.get((before, bits, standing, number), []), olds):
                return False
    return True
