"""Shows: patterns that are thrown beat by beat, and changed by bridges."""

from throwskept.bridges import bridge_into, check_reachable
from throwskept.states import check_even, start_thing_count, state_at


class Show:
    """A show: its pattern, the index that is due, and what was thrown.

    The state is always that of the pattern at the index that is due. It is not kept but worked out when it is asked
    for, so that a show of heights of many digits, whose states have more rows than there is room for, can go on.
    """

    def __init__(self, pattern):
        check_even(pattern)
        self._pattern = pattern
        self._index = 0
        # What was thrown: (beats, first, count) for so many of these beats, repeated, from the index first on.
        self._parts = []

    def go(self, count):
        """Go on so many times."""
        self._parts.append((self._pattern, self._index, count))
        self._index = (self._index + count) % len(self._pattern)

    def change(self, pattern):
        """Change to the pattern by the shortest bridge, and return its length."""
        # The things are counted by the heights, because the state may have more rows than there is room for.
        check_reachable(start_thing_count(self._pattern), pattern)
        index, beats = bridge_into(self.state(), pattern)
        self._parts.append((beats, 0, len(beats)))
        self._pattern = pattern
        self._index = index
        return len(beats)

    def state(self):
        """Return the state."""
        return state_at(self._pattern, self._index)

    def due(self):
        """Return the index that is due."""
        return self._index

    def thrown(self):
        """Return the list of all beats that were thrown, in order."""
        return [
            beats[(first + k) % len(beats)]
            for beats, first, count in self._parts
            for k in range(count)
        ]
