import unittest
from itertools import product

import naive
from test_bridges import BridgeChecks
from test_states import HUGE
from throwskept.numbered import leads, plain_bridge_at, plain_bridge_count, plain_bridge_number

# (one state, heights, another one)
LEADING = [
    ((), [], ()),
    ((), [0, 0, 0], ()),
    ((0,), [], (0,)),
    ((0,), [1], (0,)),
    ((0,), [3], (2,)),
    ((2,), [0, 0], (0,)),
    ((2,), [0, 0, 1], (0,)),
    ((0,), [1, 2, 0], (0,)),
    ((0, 1, 2), [5, 3, 1], (0, 1, 2)),
    ((0, 1, 2), [5, 3, 1, 4], (0, 1, 3)),
    ((0, 1, 3), [5, 1], (0, 1, 3)),
    ((0, 4), [2, 0, 3], (1, 2)),
    ((0, HUGE), [2], (1, HUGE - 1)),
    ((0, 1), [HUGE, 1], (0, HUGE - 2)),
    ((HUGE,), [0, 0, 0, 0], (HUGE - 4,)),
]

# (one state, heights, another one), none of them a plain bridge
NOT_LEADING = [
    ((), [], (0,)),
    ((0,), [], ()),
    ((0,), [], (1,)),
    ((), [1], (0,)),
    ((), [0], (0,)),
    ((), [2, 0], (0,)),
    ((0,), [0], (0,)),
    ((0,), [0], ()),
    ((1,), [1], (0,)),
    ((0,), [2], (0,)),
    ((0,), [1], (1,)),
    ((0, 1), [1, 1], (0,)),
    ((0, 1), [1, 1], (0, 1)),
    ((0, 2), [2, 0], (0,)),
    ((0, 5), [5, 0], (3,)),
    ((0, 1), [3, 2], (1,)),
    ((0, 1), [2, 1, 0], (0, 1)),
    ((0,), [1, 0], (0,)),
    ((0, 1, 2), [5, 3, 2], (0, 1, 2)),
    ((0, 1, 2), [5, 3], (0, 1, 2)),
    ((0, 1, 2), [3, 5, 1], (0, 1, 2)),
    ((0, HUGE), [HUGE], (HUGE - 1,)),
    ((0, HUGE), [2], (1, HUGE)),
]

# (one state, another one, length, number of the plain bridges)
COUNTS = [
    ((), (), 0, 1),
    ((), (), 5, 1),
    ((0,), (0,), 0, 1),
    ((0,), (1,), 0, 0),
    ((0,), (0,), 1, 1),
    ((0,), (0,), 2, 2),
    ((0,), (7,), 2, 2),
    ((0,), (0,), 5, 16),
    ((3,), (0,), 2, 0),
    ((3,), (1,), 2, 1),
    ((3,), (0,), 3, 1),
    ((3,), (9,), 6, 4),
    ((0, 1), (0, 1), 1, 1),
    ((0, 1), (0, 1), 2, 2),
    ((0, 1), (0, 2), 1, 1),
    ((0, 1), (1, 2), 1, 0),
    ((0, 1), (1, 2), 2, 2),
    ((0, 2), (0, 3), 5, 2 * 3 * 3 * 2),
    ((0, 1, 2), (0, 1, 2), 3, 6),
    ((0, 1, 2), (0, 1, 2), 5, 16 * 6),
    ((0,), (0, 1), 3, 0),
    ((0, 1), (0,), 3, 0),
    ((0, 9), (0,), 3, 0),
    ((0,), (0, 6), 3, 0),
    ((0, 9), (0, 6), 3, 4),
    ((0, 9), (0, 7), 3, 0),
    ((5, 9), (0, 6), 3, 0),
    ((0, 5), (0,), 1, 0),
]

# (one state, another one, length) with more bridges than anyone can go through
LONG = [
    ((0, 1, 2), (0, 1, 2), 60),
    ((0, 2, 5, 9, 40), (0, 1, 3, 30, 31), 64),
    ((0,), (0,), 300),
    ((0, 3, 4, 70, HUGE), (2, 5, 9, 100, HUGE - 65), 65),
    (tuple(range(40)), tuple(range(40)), 80),
    ((3, 59), (0, HUGE), 60),
    ((0, 10, 59, 60, 61), (0, 1, 2, 5, 8), 60),
    ((0, HUGE, HUGE + 1), (4, HUGE - 75, HUGE - 74), 75),
]


def count_by_beats(one, other, k):
    """Return the number of the choices of a plain bridge, beat by beat and road by road."""
    count = 1
    for beat in range(k):
        begun = [at for at in one if at < beat]
        if beat not in one:
            count *= 1 + len(begun)
    for left in range(len([at for at in one if at < k])):
        count *= left + 1
    return count


class NumberedChecks(BridgeChecks):
    def assert_plain_bridge(self, one, other, k, heights):
        self.assertIs(type(heights), list)
        self.assertEqual({type(height) for height in heights}, {int} if k else set())
        self.assertEqual(len(heights), k)
        self.assertEqual(naive.plain_behind(one, heights), other)
        self.assertIs(leads(one, heights, other), True)


class LeadsTest(NumberedChecks):
    def test_leading(self):
        for one, heights, other in LEADING:
            self.assertIs(leads(one, heights, other), True)
            self.assertEqual(naive.plain_behind(one, heights), other)

    def test_not_leading(self):
        for one, heights, other in NOT_LEADING:
            self.assertIs(leads(one, heights, other), False)
            self.assert_no_bridge(plain_bridge_number, one, other, heights)

    def test_two_things_at_a_beat_behind_the_bridge(self):
        self.assertIs(leads((0, 1), [4, 3], (2,)), False)
        self.assertIs(leads((0, 1), [4, 3], (2, 3)), False)
        self.assertIs(leads((0, 9), [9], (8,)), False)

    def test_all_small_heights(self):
        states = naive.plain_states(2, 3)
        for k, highest in [(0, 0), (1, 5), (2, 5), (3, 5)]:
            for heights in product(range(highest + 1), repeat=k):
                for one in states:
                    behind = naive.plain_behind(one, heights)
                    for other in states:
                        self.assertIs(leads(one, list(heights), other), behind == other)

    def test_arguments_stay(self):
        heights = [5, 3, 1]
        leads((0, 1, 2), heights, (0, 1, 2))
        leads((0, 1, 2), heights, (0, 1, 3))
        plain_bridge_number((0, 1, 2), (0, 1, 2), heights)
        self.assert_no_bridge(plain_bridge_number, (0, 1, 2), (0, 1, 3), heights)
        self.assertEqual(heights, [5, 3, 1])


class CountTest(NumberedChecks):
    def test_counts(self):
        for one, other, k, count in COUNTS:
            self.assertEqual(plain_bridge_count(one, other, k), count, (one, other, k))
            self.assert_no_bridge(plain_bridge_at, one, other, k, count)
            self.assert_no_bridge(plain_bridge_at, one, other, k, -1)
            if count:
                self.assert_plain_bridge(one, other, k, plain_bridge_at(one, other, k, count - 1))

    def test_counts_of_many_digits(self):
        for one, other, k in LONG:
            self.assertEqual(plain_bridge_count(one, other, k), count_by_beats(one, other, k))
        self.assertEqual(plain_bridge_count((0,), (0,), 300), 2 ** 299)
        self.assertEqual(plain_bridge_count((0, 1, 2), (0, 1, 2), 60), 4 ** 57 * 6)
        self.assertEqual(plain_bridge_count((0, 5), (3, 8), 70), 2 ** 4 * 3 ** 64 * 2)

    def test_lengths_of_many_digits(self):
        self.assertEqual(plain_bridge_count((), (), HUGE), 1)
        self.assertEqual(plain_bridge_count((HUGE,), (0,), HUGE), 1)
        self.assertEqual(plain_bridge_count((HUGE - 3,), (5,), HUGE), 4)
        self.assertEqual(plain_bridge_count((HUGE - 3, HUGE + 2), (2, 5), HUGE), 4)
        self.assertEqual(plain_bridge_count((HUGE - 3, HUGE - 1), (2, 5), HUGE), 2 * 2)
        self.assertEqual(plain_bridge_count((HUGE - 3, HUGE + 2), (3, 5), HUGE), 0)
        self.assertEqual(plain_bridge_count((0,), (), HUGE), 0)
        self.assertEqual(plain_bridge_count((0, 7), (0,), HUGE), 0)
        self.assertEqual(plain_bridge_count((0, 2 * HUGE), (0, 1), HUGE), 0)
        for number in [-1, -HUGE, 4, HUGE]:
            self.assert_no_bridge(plain_bridge_at, (HUGE - 3,), (5,), HUGE, number)
        for number in [-1, 0, 1, HUGE]:
            self.assert_no_bridge(plain_bridge_at, (0,), (), HUGE, number)


class OrderTest(NumberedChecks):
    def test_choices_of_an_example(self):
        # Two roads, from 0 over 3 to 6 and from 2 over 4 to 5; no thing lands at 1.
        self.assertEqual(naive.choices((0, 2), [3, 0, 2, 3, 1]), (0, 1, 2, 1, 0))
        # The bases are 2 for the beat 1, 3 for the beats 3 and 4, then 2 and 1 for the ends.
        number = (((0 * 3 + 1) * 3 + 2) * 2 + 1) * 1 + 0
        self.assertEqual(plain_bridge_number((0, 2), (0, 1), [3, 0, 2, 3, 1]), number)
        self.assertEqual(plain_bridge_at((0, 2), (0, 1), 5, number), [3, 0, 2, 3, 1])

    def test_order_of_an_example(self):
        # The beat 1 lies on no road, or on the one from 0.
        self.assertEqual([plain_bridge_at((0,), (1,), 2, number) for number in range(2)], [[3, 0], [1, 2]])
        # The beat 2 lies on no road, on the first one, or on the second one, and either road ends first.
        bridges = [[3, 3, 0], [4, 2, 0], [2, 3, 1], [2, 2, 2], [3, 1, 2], [4, 1, 1]]
        self.assertEqual([plain_bridge_at((0, 1), (0, 1), 3, number) for number in range(6)], bridges)

    def assert_all_numbered(self, one, other, k, bridges):
        """The bridges are all ones with k items, in any order."""
        bridges = sorted(bridges, key=lambda heights: naive.choices(one, heights))
        self.assertEqual(plain_bridge_count(one, other, k), len(bridges))
        for number, heights in enumerate(bridges):
            self.assertEqual(plain_bridge_at(one, other, k, number), heights)
            self.assertEqual(plain_bridge_number(one, other, heights), number)
        for number in [-len(bridges) - 1, -2, -1, len(bridges), len(bridges) + 1, 2 * len(bridges) + 7]:
            self.assert_no_bridge(plain_bridge_at, one, other, k, number)

    def test_all_bridges_between_small_states(self):
        for things, farthest, k in [(4, 3, 0), (4, 3, 1), (4, 3, 2), (4, 3, 3), (4, 3, 4), (3, 3, 5), (2, 1, 6)]:
            states = naive.plain_states(things, farthest)
            for one in states:
                found = naive.plain_bridges_from(one, k, farthest)
                for other in states:
                    self.assert_all_numbered(one, other, k, found.get(other, []))

    def test_states_with_far_things(self):
        for one, other, k in [((0, 7), (1, 4), 3), ((1, 6), (0, 3), 4), ((4,), (5,), 4), ((3, 8), (3, 8), 3)]:
            found = naive.plain_bridges_from(one, k, 8)
            self.assert_all_numbered(one, other, k, found.get(other, []))


class LongTest(NumberedChecks):
    def test_there_and_back(self):
        for one, other, k in LONG:
            count = plain_bridge_count(one, other, k)
            for number in [0, 1, count // 7, count // 2, count * 5 // 8 + 3, count - 2, count - 1]:
                heights = plain_bridge_at(one, other, k, number)
                self.assert_plain_bridge(one, other, k, heights)
                self.assertEqual(plain_bridge_number(one, other, heights), number)

    def test_first_and_last(self):
        for one, other, k in LONG:
            count = plain_bridge_count(one, other, k)
            begun = [len([at for at in one if at < beat]) for beat in range(k) if beat not in one]
            roads = len([at for at in one if at < k])
            first = plain_bridge_at(one, other, k, 0)
            self.assertEqual(naive.choices(one, first), (0,) * (len(begun) + roads))
            last = plain_bridge_at(one, other, k, count - 1)
            self.assertEqual(naive.choices(one, last), (*begun, *reversed(range(roads))))

    def test_neighbours_are_in_order(self):
        for one, other, k in LONG:
            middle = plain_bridge_count(one, other, k) // 3
            keys = [naive.choices(one, plain_bridge_at(one, other, k, middle + step)) for step in range(30)]
            self.assertEqual(keys, sorted(set(keys)))

    def test_outside_of_the_numbers(self):
        for one, other, k in LONG:
            count = plain_bridge_count(one, other, k)
            for number in [-1, -2, -count, count, count + 1, 2 * count, count * HUGE]:
                self.assert_no_bridge(plain_bridge_at, one, other, k, number)

    def test_many_beats(self):
        heights = plain_bridge_at((0, 1), (0, 1), 5000, 3 ** 4000)
        self.assert_plain_bridge((0, 1), (0, 1), 5000, heights)
        self.assertEqual(plain_bridge_number((0, 1), (0, 1), heights), 3 ** 4000)
        state = tuple(range(600))
        self.assertEqual(plain_bridge_at(state, state, 600, 0), [600] * 600)
        last = plain_bridge_at(state, state, 600, plain_bridge_count(state, state, 600) - 1)
        self.assertEqual(last, [1199 - 2 * beat for beat in range(600)])


class NumberErrorsTest(NumberedChecks):
    def with_another_height(self, heights):
        """Return the lists with one height another one, or two heights exchanged."""
        found = []
        for at, height in enumerate(heights):
            for other in sorted({0, 1, max(0, height - 1), height + 1, height + len(heights)} - {height}):
                found.append([*heights[:at], other, *heights[at + 1:]])
            for behind in range(at + 1, len(heights)):
                if heights[behind] != height:
                    exchanged = list(heights)
                    exchanged[at], exchanged[behind] = heights[behind], height
                    found.append(exchanged)
        return found

    def test_another_height(self):
        bridges = [some for some in LEADING if some[1]]
        for one, other, k in LONG[:2]:
            bridges.append((one, plain_bridge_at(one, other, k, plain_bridge_count(one, other, k) // 3), other))
        for one, heights, other in bridges:
            plain_bridge_number(one, other, heights)
            for some in self.with_another_height(heights):
                self.assertIs(leads(one, some, other), False)
                self.assert_no_bridge(plain_bridge_number, one, other, some)

    def test_one_item_more_or_less(self):
        for one, heights, other in LEADING:
            near = [[*heights[:at], item, *heights[at:]] for at in range(len(heights) + 1) for item in [0, 1, 2, HUGE]]
            near += [heights[:at] + heights[at + 1:] for at in range(len(heights))]
            for some in near:
                if naive.plain_behind(one, some) == other:
                    self.assertIs(leads(one, some, other), True)
                    number = plain_bridge_number(one, other, some)
                    self.assertEqual(plain_bridge_at(one, other, len(some), number), some)
                else:
                    self.assertIs(leads(one, some, other), False)
                    self.assert_no_bridge(plain_bridge_number, one, other, some)

    def test_without_things(self):
        self.assertEqual(plain_bridge_number((), (), [0, 0]), 0)
        self.assertEqual(plain_bridge_at((), (), 3, 0), [0, 0, 0])
        self.assertEqual(plain_bridge_at((), (), 0, 0), [])
        for heights in [[1], [0, 1], [2, 0], [0, 0, HUGE]]:
            self.assert_no_bridge(plain_bridge_number, (), (), heights)
        self.assert_no_bridge(plain_bridge_at, (), (), 3, 1)

    def test_numbers_of_no_bridges(self):
        for one, other, k in [((0,), (), 3), ((), (0,), 3), ((5,), (0,), 3), ((0, 1), (3, 4), 1)]:
            for number in [-1, 0, 1, HUGE, -HUGE]:
                self.assert_no_bridge(plain_bridge_at, one, other, k, number)

    def test_a_later_change_of_the_list_has_no_effect(self):
        heights = plain_bridge_at((0, 2), (0, 1), 5, 9)
        told = list(heights)
        heights[0] = 77
        heights.append(1)
        self.assertEqual(plain_bridge_at((0, 2), (0, 1), 5, 9), told)


if __name__ == "__main__":
    unittest.main()
