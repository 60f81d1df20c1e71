"""The words of the document, step by step and without any care for speed, to compare the program with."""

from itertools import combinations, combinations_with_replacement, product


def trimmed(rows):
    rows = [tuple(row) for row in rows]
    while rows and not any(rows[-1]):
        rows.pop()
    return tuple(rows)


def throw(state, beat):
    """Return (next state, None), or (None, least hand that clashes)."""
    hands = len(beat)
    due = state[0] if state else (0,) * hands
    for hand in range(hands):
        if len(beat[hand]) != due[hand]:
            return None, hand
    rows = [list(row) for row in state[1:]]
    for throws in beat:
        for height, target in throws:
            while len(rows) < height:
                rows.append([0] * hands)
            rows[height - 1][target] += 1
    return trimmed(rows), None


def throw_all(state, beats):
    """Return (last state, None), or (None, (index, hand)) of the first clash."""
    for index, beat in enumerate(beats):
        state, hand = throw(state, beat)
        if hand is not None:
            return None, (index, hand)
    return state, None


def runs_from(pattern, state):
    return throw_all(state, pattern)[0] == state


def uneven(pattern):
    """Return the (index, hand) at which the pattern is not even, in ascending order."""
    found = []
    for index in range(len(pattern)):
        for hand in range(len(pattern[0])):
            landing = [
                throw
                for at, beat in enumerate(pattern)
                for throws in beat
                for throw in throws
                if (at + throw[0]) % len(pattern) == index and throw[1] == hand
            ]
            if len(landing) != len(pattern[index][hand]):
                found.append((index, hand))
    return found


def state_of_past(pattern, index):
    """Return what is in the air before the beat index, if the pattern was thrown for long before it."""
    heights = [height for beat in pattern for throws in beat for height, _ in throws]
    highest = max(heights, default=0)
    rows = [[0] * len(pattern[0]) for _ in range(highest)]
    for at in range(index - highest, index):
        for throws in pattern[at % len(pattern)]:
            for height, target in throws:
                if at + height >= index:
                    rows[at + height - index][target] += 1
    return trimmed(rows)


def beats(hands, highest, most):
    """Return all beats with throws up to this height and at most so many in each hand."""
    throws = [(height, hand) for height in range(1, highest + 1) for hand in range(hands)]
    items = [item for many in range(most + 1) for item in combinations_with_replacement(throws, many)]
    return list(product(items, repeat=hands))


def patterns(hands, period, highest, most):
    return list(product(beats(hands, highest, most), repeat=period))


def states(hands, row_count, most):
    """Return all states with at most so many rows and numbers up to most."""
    rows = list(product(range(most + 1), repeat=hands))
    return sorted({trimmed(some) for some in product(rows, repeat=row_count)})


def next_states(state, hands, highest):
    """Return all states that come behind a beat with throws up to this height."""
    due = state[0] if state else (0,) * hands
    throws = [(height, hand) for height in range(1, highest + 1) for hand in range(hands)]
    choices = [combinations_with_replacement(throws, number) for number in due]
    return sorted({throw(state, beat)[0] for beat in product(*choices)})


def walk_lengths(one, hands, highest):
    """Return a dict from each state that can be reached to the least number of beats, by a walk over all states."""
    lengths = {one: 0}
    queue = [one]
    for state in queue:
        for behind in next_states(state, hands, highest):
            if behind not in lengths:
                lengths[behind] = lengths[state] + 1
                queue.append(behind)
    return lengths


def least_length(one, other):
    """Return the least length of a bridge in the words of the document, or None."""
    if sum(map(sum, one)) != sum(map(sum, other)):
        return None
    k = 0
    while not all(
        number <= (other[at - k][hand] if at - k < len(other) else 0)
        for at, row in enumerate(one)
        for hand, number in enumerate(row)
        if at >= k
    ):
        k += 1
    return k


def turns(heights):
    """Return the turns, moving the first item to the end again and again."""
    found = [heights]
    while len(found) < len(heights):
        heights = heights[1:] + heights[:1]
        found.append(heights)
    return found


def cards_beat_by_beat(heights):
    """Return the cards of plain heights, thrown from the start."""
    pattern = one_hand(*heights)
    state = state_of_past(pattern, 0)
    cards = []
    for beat, height in zip(pattern, heights):
        state, hand = throw(state, beat)
        assert hand is None
        cards.append(sum(row[0] for row in state[:height]))
    return tuple(cards)


def plain_heights(n, things):
    """Return all plain heights with so many items and things, in ascending order, by trying all heights."""
    if n == 1:
        return [(things,)]
    found = []
    for some in product(range(n * things + 1), repeat=n - 1):
        heights = (*some, n * things - sum(some))
        if heights[-1] >= 0 and not uneven(one_hand(*heights)):
            found.append(heights)
    return found


def one_hand(*heights):
    """Return the pattern of one hand with these heights, 0 for no throw."""
    return tuple((((height, 0),),) if height else ((),) for height in heights)


def plain_states(things, farthest):
    """Return all plain states with at most so many things, at beats up to the farthest one."""
    beats = range(farthest + 1)
    return [state for number in range(things + 1) for state in combinations(beats, number)]


def plain_behind(one, heights):
    """Return the plain state behind the heights, or None if they are thrown wrongly or two things land at a beat."""
    landing = set(one)
    for height in heights:
        if (height > 0) != (0 in landing) or height in landing - {0}:
            return None
        landing.discard(0)
        landing = {at - 1 for at in landing | ({height} if height else set())}
    return tuple(sorted(landing))


def plain_bridges_from(one, k, farthest):
    """Return a dict from states to all bridges of k items to them, by trying all heights.

    The states with things at beats up to the farthest one are complete.
    """
    found = {}
    for heights in product(*[range(k - beat + farthest + 1) for beat in range(k)]):
        other = plain_behind(one, heights)
        if other is not None:
            found.setdefault(other, []).append(list(heights))
    return found


def roads(one, heights):
    """Return (beats of the road, its end) for each road, in the order in which they begin."""
    found = []
    for at in one:
        if at < len(heights):
            beats = [at]
            while beats[-1] < len(heights):
                beats.append(beats[-1] + heights[beats[-1]])
            found.append((beats[:-1], beats[-1]))
    return found


def choices(one, heights):
    """Return the choices of a plain bridge."""
    ways = roads(one, heights)
    found = []
    for beat in range(len(heights)):
        if beat not in one:
            found.append(sum(number for number, (beats, _) in enumerate(ways, 1) if beat in beats))
    for number, (_, end) in enumerate(ways):
        found.append(len([later for _, later in ways[number + 1:] if later < end]))
    return tuple(found)


SMALL_PATTERNS = [
    *patterns(1, 1, 5, 3),
    *patterns(1, 2, 5, 2),
    *patterns(1, 3, 3, 2),
    *patterns(1, 4, 4, 1),
    *patterns(2, 1, 3, 2),
    *patterns(2, 2, 3, 1),
    *patterns(3, 1, 2, 1),
]
