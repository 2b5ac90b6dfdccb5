"""Machines that read the bits of a rule's constants, the least first, and let or do not."""

from poisonrules.kinds import WIDTH
from poisonrules.terms import consts_of
from poisonrules.wholes import is_whole


def is_machine(rule, thing):
    """Whether thing is a machine of rule."""
    if not isinstance(thing, tuple) or len(thing) == 0:
        return False
    many_nexts = 1 << len(consts_of(rule.old))
    return all([is_room(one, many_nexts, len(thing)) for one in thing]) and thing[0][0] is False


def is_room(thing, many_nexts, many_rooms):
    """Whether thing is a room of a machine that has so many."""
    if not isinstance(thing, tuple) or len(thing) != 2 or not isinstance(thing[0], bool):
        return False
    nexts = thing[1]
    if not isinstance(nexts, tuple) or len(nexts) != many_nexts:
        return False
    return all([is_whole(room) and 0 < room < many_rooms for room in nexts])


def lets(machine, numbers, *, width=WIDTH):
    """Whether machine lets these numbers of the constants at width."""
    room = 0
    for place in range(width):
        at = 0
        for number in numbers:
            at = 2 * at + (number >> place & 1)
        room = machine[room][1][at]
    return machine[room][0]


def rooms_ahead(machine):
    """For each room (room, number of the constants' bits) of all that lead to it."""
    ahead = [[] for _ in machine]
    for room, (_, nexts) in enumerate(machine):
        for bits, behind in enumerate(nexts):
            ahead[behind].append((room, bits))
    return ahead


def least_machine(machine):
    """The machine with the fewest rooms that lets the same, its rooms numbered as they are come to."""
    classes = classes_of(machine, rooms_come_to(machine))
    # Room 0 is alike to no other one, as none may lead to it.
    chosen = [0]
    numbers = {}
    nexts = []
    while len(nexts) < len(chosen):
        row = machine[chosen[len(nexts)]][1]
        for room in row:
            if classes[room] not in numbers:
                numbers[classes[room]] = len(chosen)
                chosen.append(room)
        nexts.append(tuple([numbers[classes[room]] for room in row]))
    return tuple([(machine[room][0], row) for room, row in zip(chosen, nexts)])


def rooms_come_to(machine):
    """All rooms behind room 0."""
    found = {}
    waiting = list(machine[0][1])
    while waiting:
        room = waiting.pop()
        if room not in found:
            found[room] = True
            waiting.extend(machine[room][1])
    return list(found)


def classes_of(machine, rooms):
    """For each of rooms a number, the same for those from which the same is let; each leads to such rooms alone."""
    ahead = {}
    for room in rooms:
        for at, behind in enumerate(machine[room][1]):
            ahead.setdefault((behind, at), []).append(room)
    blocks = [{room: True for room in rooms if machine[room][0] == let} for let in (False, True)]
    classes = {room: number for number, block in enumerate(blocks) for room in block}
    waiting = [0, 1]
    while waiting:
        splitter = list(blocks[waiting.pop()])
        for at in range(len(machine[0][1])):
            leading = {}
            for room in splitter:
                for before in ahead.get((room, at), []):
                    leading.setdefault(classes[before], []).append(before)
            for number, some in leading.items():
                moved = lesser_part(blocks[number], some)
                if len(moved) > 0:
                    # The lesser part as a block of its own: so each room is moved but seldom.
                    waiting.append(len(blocks))
                    classes.update({room: len(blocks) for room in moved})
                    blocks.append({room: True for room in moved})
                    for room in moved:
                        del blocks[number][room]
    return classes


def lesser_part(block, some):
    """Of a block the lesser of some of its rooms and its others."""
    if 2 * len(some) <= len(block):
        return some
    told = {room: True for room in some}
    return [room for room in block if room not in told]
