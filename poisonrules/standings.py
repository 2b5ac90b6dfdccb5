"""A program by all worths of its inputs, standing by standing: for each input BAD, ANY, or NUMBER for all numbers."""

from poisonrules.kinds import ANY, BAD
from poisonrules.masks import repeated
from poisonrules.running import look_worths
from poisonrules.runs import Runs
from poisonrules.tuples import tuples_of

NUMBER = 0


def program_standings(program):
    """All standings of program's inputs."""
    return tuples_of([(BAD, ANY, NUMBER)] * len(program.inputs))


def runs_by(program, standing):
    """The runs of program by a standing, at first one for each of its tuples of worths, rising."""
    count = 1 << program.width
    many = 1 << program.width * standing.count(NUMBER)
    looks = {}
    # From the last input on: its number changes from each run to the next.
    size = 1
    for name, told in reversed(list(zip(program.inputs, standing))):
        if told == NUMBER:
            block = (1 << size) - 1
            looks[name] = {number: repeated(block << number * size, count * size, many // (count * size))
                           for number in range(count)}
            size *= count
        else:
            looks[name] = {worth: repeated(mask, 1, many) for worth, mask in look_worths(told, program.width).items()}
    return Runs(program, looks, many)


def worths_at(program, standing, place):
    """The worths of the run at a place."""
    found = []
    for told in reversed(standing):
        if told == NUMBER:
            place, number = divmod(place, 1 << program.width)
            found.append(number)
        else:
            found.append(told)
    return tuple(found[::-1])
