"""Checks of the papers of machines, whoever wrote them."""

from poisonrules.grounds import Ground
from poisonrules.machines import is_machine, rooms_ahead
from poisonrules.olds import has_within
from poisonrules.pairforms import Reader, are_kinds, is_standing
from poisonrules.placedwalks import PlacedWalk
from poisonrules.rules import Rule
from poisonrules.rulestandings import standings_of
from poisonrules.tuples import is_rising
from poisonrules.wholes import is_whole


def weakest_holds(rule, machine, thing):
    """Whether machine is one of rule, and thing its paper, so that it is the weakest."""
    if not is_machine(rule, machine) or not isinstance(thing, tuple) or len(thing) != 2:
        return False
    ground = Ground(Rule(rule.name, rule.old, rule.new))
    many_rooms = len(machine)
    if not all([are_in_rooms(part, many_rooms, len(ground.inputs)) for part in thing]):
        return False
    keeps, shows = thing
    pairs = [one[2:] for one in keeps + shows]
    short = Reader(ground).short(pairs) if are_kinds(pairs) else None
    if short is None or not is_rising(keeps) or not is_rising(shows):
        return False
    walks = {standing: PlacedWalk(ground, standing) for standing in standings_of(rule)}
    placed = [(room, standing, walks[standing].place_of(pair))
              for (room, standing, _, _), pair in zip(keeps + shows, short)]
    return are_keeps(machine, walks, placed[:len(keeps)]) and are_shows(machine, walks, placed[len(keeps):])


def are_in_rooms(thing, many_rooms, many_inputs):
    """Whether thing is a tuple of (room, standing, and two things more), each room one of so many but 0."""
    if not isinstance(thing, tuple):
        return False
    for one in thing:
        if not isinstance(one, tuple) or len(one) != 4 or not is_whole(one[0]) or not 0 < one[0] < many_rooms:
            return False
        if not is_standing(one[1], many_inputs):
            return False
    return True


def all_beginnings(walks):
    """(room 0, standing, place) of each beginning by each standing."""
    return [(0, standing, walk.place_of(pair)) for standing, walk in walks.items() for pair in walk.ground.beginnings]


def ways_from(machine, walks, room, standing, place):
    """(number of the constants' bits, room behind, key of news, mask of olds) for all letters."""
    walk = walks[standing]
    rows = walk.const_ways(place)
    return [(bits, behind, *walk.pairs[one])
            for bits, (behind, row) in enumerate(zip(machine[room][1], rows)) for one in row]


def are_keeps(machine, walks, keeps):
    """Whether what a room that lets keeps stands, and all that comes of beginnings and keeps is kept."""
    kept = {}
    for room, standing, place in keeps:
        key, olds = walks[standing].pairs[place]
        kept.setdefault((room, standing, key), []).append(olds)
    for room, standing, place in all_beginnings(walks) + keeps:
        if machine[room][0] and not walks[standing].place_stands(place):
            return False
        for _, behind, key, olds in ways_from(machine, walks, room, standing, place):
            if not has_within(kept.get((behind, standing, key), []), olds):
                return False
    return True


def are_shows(machine, walks, shows):
    """Whether each room that does not let is shown, and each of shows comes of beginnings and shows in all ways."""
    refuted = {room: True for room, standing, place in shows if not walks[standing].place_stands(place)}
    if not all([let or room == 0 or room in refuted for room, (let, _) in enumerate(machine)]):
        return False
    come = {}
    for room, standing, place in all_beginnings(walks) + shows:
        for bits, _, key, olds in ways_from(machine, walks, room, standing, place):
            come.setdefault((room, bits, standing, key), []).append(olds)
    ahead = rooms_ahead(machine)
    for room, standing, place in shows:
        key, olds = walks[standing].pairs[place]
        for before, bits in ahead[room]:
            if not has_within(come.get((before, bits, standing, key), []), olds):
                return False
    return True
