"""Checks of the papers of machines, whoever wrote them."""

from poisonrules.machines import is_machine, rooms_ahead
from poisonrules.olds import has_within
from poisonrules.pairforms import are_olds, has_forms, is_standing, news_forms, olds_forms
from poisonrules.rules import Rule
from poisonrules.terms import inputs_of
from poisonrules.tuples import is_rising
from poisonrules.walks import Walk, standings_of
from poisonrules.wholes import is_whole


def weakest_holds(rule, machine, thing):
    """Whether machine is one of rule, and thing its paper, so that it is the weakest."""
    bare = Rule(rule.name, rule.old, rule.new)
    if not is_machine(rule, machine) or not isinstance(thing, tuple) or len(thing) != 2:
        return False
    if not all([are_pairs_in_rooms(part, bare, len(machine)) for part in thing]):
        return False
    walks = {standing: Walk(bare, standing) for standing in standings_of(bare)}
    keeps, shows = [[(room, standing, walks[standing].short((news, olds))) for room, standing, news, olds in part]
                    for part in thing]
    return are_keeps(machine, walks, keeps) and are_shows(machine, walks, shows)


def are_pairs_in_rooms(thing, rule, many_rooms):
    """Whether thing is a rising tuple of (room, standing, news, olds) of a rule without tests."""
    if not isinstance(thing, tuple):
        return False
    many_inputs = len(inputs_of(rule.old))
    news = news_forms(rule)
    olds = olds_forms(rule)
    return all([is_pair_in_room(one, many_rooms, many_inputs, news, olds) for one in thing]) and is_rising(thing)


def is_pair_in_room(thing, many_rooms, many_inputs, news, olds):
    """Whether thing is (room, standing, news, olds), the room one of so many but 0, the numbers of these forms."""
    if not isinstance(thing, tuple) or len(thing) != 4 or not is_whole(thing[0]) or not 0 < thing[0] < many_rooms:
        return False
    return is_standing(thing[1], many_inputs) and has_forms(thing[2], news) and are_olds(thing[3], olds)


def ways_from(machine, walks, room, standing, pair):
    """(place of the constants' bits, room behind, pair behind) of all letters."""
    rows = walks[standing].const_ways(pair)
    return [(at, behind, one) for at, (behind, row) in enumerate(zip(machine[room][1], rows)) for one in row]


def all_beginnings(walks):
    """(room 0, standing, pair) of each beginning by each standing."""
    return [(0, standing, pair) for standing, walk in walks.items() for pair in walk.beginnings()]


def are_keeps(machine, walks, keeps):
    """Whether what a room that lets keeps stands, and all that comes of beginnings and keeps is kept."""
    kept = {}
    for room, standing, (number, marked, unmarked) in keeps:
        kept.setdefault((room, standing, number), []).append((marked, unmarked))
    for room, standing, pair in all_beginnings(walks) + keeps:
        if machine[room][0] and not walks[standing].stands(pair):
            return False
        for _, behind, (number, marked, unmarked) in ways_from(machine, walks, room, standing, pair):
            if not has_within(kept.get((behind, standing, number), []), marked, unmarked):
                return False
    return True


def are_shows(machine, walks, shows):
    """Whether each room that does not let is shown, and each of shows comes of beginnings and shows in all ways."""
    refuted = {room: True for room, standing, pair in shows if not walks[standing].stands(pair)}
    if not all([let or room == 0 or room in refuted for room, (let, _) in enumerate(machine)]):
        return False
    come = {}
    for room, standing, pair in all_beginnings(walks) + shows:
        for at, _, (number, marked, unmarked) in ways_from(machine, walks, room, standing, pair):
            come.setdefault((room, at, standing, number), []).append((marked, unmarked))
    ahead = rooms_ahead(machine)
    for room, standing, (number, marked, unmarked) in shows:
        for before, at in ahead[room]:
            if not has_within(come.get((before, at, standing, number), []), marked, unmarked):
                return False
    return True
