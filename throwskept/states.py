"""States, the throwing of beats, and the starts of patterns.

Inside of this program a state is also kept as its landings: a dict from (row, hand) to the number of things
that land there, without the zeros. A throw of a height of many digits would make more rows than there is room for.
"""

from throwskept.errors import Clash


def thing_count(state):
    """Return the number of the things of the state."""
    return sum([sum(row) for row in state])


def after(state, beat):
    """Return the state after the beat was thrown."""
    return run(state, [beat])


def run(state, beats):
    """Return the state after the list of beats was thrown."""
    if not beats:
        # Without a beat nothing tells how many hands an empty state has.
        return state
    return state_from(landings_behind(state, beats), len(beats[0]))


def start_of(pattern):
    """Return the start of the pattern."""
    check_even(pattern)
    return start_of_even(pattern)


def state_at(pattern, index):
    """Return the state of the pattern at the index."""
    return run(start_of(pattern), pattern[:index])


def landings_of(state):
    """Return the landings of the state."""
    return {
        (k, hand): number
        for k, row in enumerate(state)
        for hand, number in enumerate(row)
        if number
    }


def landings_behind(state, beats):
    """Return the landings of the state after the beats were thrown."""
    landings = landings_of(state)
    for now, beat in enumerate(beats):
        for hand, throws in enumerate(beat):
            if landings.pop((now, hand), 0) != len(throws):
                raise Clash(now, hand)
            for height, target in throws:
                spot = (now + height, target)
                landings[spot] = landings.get(spot, 0) + 1
    # All rows were counted from the first beat; a state counts them from the present one.
    return {(at - len(beats), hand): landings[(at, hand)] for at, hand in landings}


def state_from(landings, hand_count):
    """Return the state with so many hands that has these landings."""
    row_count = max([at + 1 for at, _ in landings], default=0)
    rows = [(0,) * hand_count] * row_count
    for k in sorted({at for at, _ in landings}):
        rows[k] = tuple([landings.get((k, hand), 0) for hand in range(hand_count)])
    return tuple(rows)


def targets_of(pattern):
    """Return (beat, hand) for each throw of one round of the pattern: where the thing lands, beats not wrapped."""
    return [
        (index + height, target)
        for index, beat in enumerate(pattern)
        for throws in beat
        for height, target in throws
    ]


def tally(spots):
    """Return a dict that tells how often each of the spots stands in the list."""
    counts = {}
    for spot in spots:
        counts[spot] = counts.get(spot, 0) + 1
    return counts


def uneven_spots(pattern):
    """Return (index, hand) for each index and hand at which the pattern is not even, in ascending order."""
    landing = tally([(at % len(pattern), hand) for at, hand in targets_of(pattern)])
    return [
        (index, hand)
        for index, beat in enumerate(pattern)
        for hand, throws in enumerate(beat)
        if landing.get((index, hand), 0) != len(throws)
    ]


def check_even(pattern):
    """Raise Clash at the least index and the least hand there at which the pattern is not even, if there is one."""
    spots = uneven_spots(pattern)
    if spots:
        index, hand = spots[0]
        raise Clash(index, hand)


def start_thing_count(pattern):
    """Return the number of the things of the start of a pattern that is even everywhere."""
    heights = [height for beat in pattern for throws in beat for height, _ in throws]
    return sum(heights) // len(pattern)


def start_of_even(pattern):
    """Return the start of a pattern that is even everywhere.

    A thing that lands in row k was thrown in the round just before, and then the same throw of this round lands
    at k + period; or further back, and then the same throw of one round later put a thing into row k + period.
    """
    period = len(pattern)
    hands = range(len(pattern[0]))
    targets = tally(targets_of(pattern))
    row_count = max([at + 1 - period for at, _ in targets], default=0)
    # The rows behind the start's last one are kept as zeros, so that row k + period always exists.
    rows = [(0,) * len(hands)] * (row_count + period)
    for k in reversed(range(row_count)):
        rows[k] = tuple([rows[k + period][hand] + targets.get((k + period, hand), 0) for hand in hands])
    return tuple(rows[:row_count])
