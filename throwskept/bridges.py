"""Bridges: beats that lead from one state to another one."""

from throwskept.errors import NoBridge
from throwskept.states import after, check_even, landings_of, start_of_even, start_thing_count, thing_count


def bridge_length(one, other):
    """Return the least length of a bridge from the first state to the second one."""
    if thing_count(one) != thing_count(other):
        raise NoBridge("the states do not have the same number of things")
    spots = sorted(landings_of(one).items(), reverse=True)
    # The last row of the first state is not all zeros, so it has to meet a row of the second one.
    length = max(0, len(one) - len(other))
    while not fits(spots, other, length):
        length += 1
    return length


def bridge(one, other):
    """Return a bridge of the least length, a list of beats."""
    length = bridge_length(one, other)
    free = free_spots(one, other, length)
    beats = []
    taken = 0
    for now, row in enumerate(one[:length]):
        beat = []
        for number in row:
            # The free spots are in ascending order, so the throws to them are, too.
            spots = free[taken:taken + number]
            taken += number
            beat.append(tuple([(length - now + at, hand) for at, hand in spots]))
        beats.append(tuple(beat))
    return beats


def bridge_into(state, pattern):
    """Return the least index of the pattern with the least length of a bridge to its state there, and a bridge."""
    check_reachable(thing_count(state), pattern)
    goal = start_of_even(pattern)
    found = (bridge_length(state, goal), 0, goal)
    for index, beat in enumerate(pattern[:-1]):
        goal = after(goal, beat)
        length = bridge_length(state, goal)
        if length < found[0]:
            found = (length, index + 1, goal)
    return (found[1], bridge(state, found[2]))


def check_reachable(thing_number, pattern):
    """Raise Clash if the pattern is not even somewhere, and NoBridge if it does not have so many things."""
    check_even(pattern)
    # The things are counted ahead, because a start with other things may have more rows than there is room for.
    if thing_number != start_thing_count(pattern):
        raise NoBridge("the pattern does not have the same number of things")


def fits(spots, other, length):
    """Return True if the things of a state that land behind a bridge of this length have room in the other state.

    The spots are the landings ((row, hand), number) of the state, the last ones first.
    """
    for (at, hand), number in spots:
        if at < length:
            return True
        if number > other[at - length][hand]:
            return False
    return True


def free_spots(one, other, length):
    """Return (row, hand) for each thing of the second state that a bridge of this length has to throw there."""
    landings = landings_of(one)
    free = []
    for at, row in enumerate(other):
        for hand, number in enumerate(row):
            free.extend([(at, hand)] * (number - landings.get((at + length, hand), 0)))
    return free
