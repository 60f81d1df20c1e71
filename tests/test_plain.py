import unittest
from itertools import product

import naive
from naive import one_hand
from test_states import HUGE
from throwskept.errors import BadText, Clash, NoBridge, NoPlace, NotPlain, ThrowError
from throwskept.plain import is_plain, least_turn, pattern_of, things_of, turned, unlike_count
from throwskept.states import start_of, thing_count

# (plain heights, their things)
PLAIN = [
    ((0,), 0),
    ((0, 0, 0), 0),
    ((1,), 1),
    ((3,), 3),
    ((2, 0), 1),
    ((5, 1), 3),
    ((4, 4, 1), 3),
    ((5, 3, 1), 3),
    ((9, 7, 5, 3, 1), 5),
    ((8, 0, 1), 3),
    ((HUGE,), HUGE),
    ((2 * HUGE, 0), HUGE),
    ((HUGE + 2, HUGE, HUGE - 2), HUGE),
    ((3 * HUGE + 1, 5, 0), HUGE + 2),
]

NOT_PLAIN = [
    (1, 0),
    (4, 3),
    (1, 0, 2),
    (4, 1, 4, 1),
    (5, 4, 1),
    (1, 1, 0),
    (2, 1, 0),
    (HUGE, HUGE - 1),
    (3 * HUGE, 1, 0),
    (HUGE + 1, 0, 0, 0),
]


class PlainChecks(unittest.TestCase):
    def assert_not_plain(self, function, *arguments):
        with self.assertRaises(NotPlain) as caught:
            function(*arguments)
        self.assertIsInstance(caught.exception, ThrowError)
        self.assertIsInstance(caught.exception, ValueError)
        self.assertNotIsInstance(caught.exception, (Clash, NoBridge, NoPlace, BadText))


class PatternTest(unittest.TestCase):
    def test_patterns(self):
        self.assertEqual(pattern_of((3,)), ((((3, 0),),),))
        self.assertEqual(pattern_of((0,)), (((),),))
        self.assertEqual(pattern_of((5, 0, 1)), ((((5, 0),),), ((),), (((1, 0),),)))
        self.assertEqual(pattern_of((0, HUGE)), (((),), (((HUGE, 0),),)))

    def test_patterns_of_heights_that_are_not_plain(self):
        for heights in NOT_PLAIN:
            self.assertEqual(pattern_of(heights), one_hand(*heights))

    def test_answers_are_tuples(self):
        pattern = pattern_of((2, 0))
        self.assertEqual([type(pattern), type(pattern[0]), type(pattern[0][0]), type(pattern[0][0][0])], [tuple] * 4)
        self.assertEqual([type(pattern[1]), type(pattern[1][0])], [tuple] * 2)


class IsPlainTest(PlainChecks):
    def test_plain(self):
        for heights, things in PLAIN:
            self.assertIs(is_plain(heights), True)
            self.assertEqual(things_of(heights), things)

    def test_not_plain(self):
        for heights in NOT_PLAIN:
            self.assertIs(is_plain(heights), False)
            self.assert_not_plain(things_of, heights)

    def test_one_height_higher_or_lower(self):
        for heights, _ in PLAIN:
            for i, height in enumerate(heights):
                for near in [height + 1, height - 1]:
                    if len(heights) > 1 and near >= 0:
                        self.assert_not_plain(things_of, (*heights[:i], near, *heights[i + 1:]))

    def test_whole_things_are_not_enough(self):
        for heights in [(1, 0, 2), (4, 3, 5, 0), (2, 1, 0), (HUGE + 1, HUGE, HUGE - 1, HUGE)]:
            self.assertEqual(sum(heights) % len(heights), 0)
            self.assert_not_plain(things_of, heights)

    def test_all_small_heights(self):
        for n, highest in [(1, 6), (2, 6), (3, 6), (4, 5), (5, 3)]:
            for heights in product(range(highest + 1), repeat=n):
                if naive.uneven(one_hand(*heights)):
                    self.assertIs(is_plain(heights), False)
                    self.assert_not_plain(things_of, heights)
                else:
                    self.assertIs(is_plain(heights), True)
                    self.assertEqual(things_of(heights), thing_count(start_of(pattern_of(heights))))
                    self.assertEqual(things_of(heights), sum(map(sum, naive.state_of_past(one_hand(*heights), 0))))


class TurnTest(unittest.TestCase):
    def test_turned(self):
        self.assertEqual(turned((5, 3, 1), 0), (5, 3, 1))
        self.assertEqual(turned((5, 3, 1), 1), (3, 1, 5))
        self.assertEqual(turned((5, 3, 1), 2), (1, 5, 3))
        self.assertEqual(turned((5, 3, 1), 3), (5, 3, 1))
        self.assertEqual(turned((5, 3, 1), 4), (3, 1, 5))
        self.assertEqual(turned((7,), 5), (7,))

    def test_counts_of_many_digits(self):
        self.assertEqual(turned((5, 3, 1), 3 * HUGE), (5, 3, 1))
        self.assertEqual(turned((5, 3, 1), 3 * HUGE + 2), (1, 5, 3))
        self.assertEqual(turned((HUGE, 0), HUGE + 1), (0, HUGE))
        self.assertEqual(turned((4,), HUGE), (4,))

    def test_heights_need_not_be_plain(self):
        self.assertEqual(turned((4, 3), 1), (3, 4))
        self.assertEqual(least_turn((4, 3)), (3, 4))
        self.assertEqual(least_turn((2, 1, 0)), (0, 2, 1))

    def test_one_by_one(self):
        for heights in [(1, 2, 3, 4, 5), (0, 0, 1), (3, 3), (9,)]:
            turns = naive.turns(heights)
            for count in range(3 * len(heights)):
                self.assertEqual(turned(heights, count), turns[count % len(heights)])

    def test_least_turn(self):
        self.assertEqual(least_turn((5, 3, 1)), (1, 5, 3))
        self.assertEqual(least_turn((1, 5, 3)), (1, 5, 3))
        self.assertEqual(least_turn((7,)), (7,))
        self.assertEqual(least_turn((HUGE, 0, HUGE - 1)), (0, HUGE - 1, HUGE))
        self.assertIs(type(least_turn((5, 3, 1))), tuple)

    def test_least_turn_of_heights_that_repeat(self):
        self.assertEqual(least_turn((5, 1, 5, 1)), (1, 5, 1, 5))
        self.assertEqual(least_turn((3, 3, 3)), (3, 3, 3))
        self.assertEqual(least_turn((4, 1, 4, 4, 1, 4)), (1, 4, 4, 1, 4, 4))
        self.assertEqual(least_turn((1, 0, 1, 0, 0)), (0, 0, 1, 0, 1))
        self.assertEqual(least_turn((1, 0) * 20000), (0, 1) * 20000)
        self.assertEqual(least_turn((0,) * 20000 + (1,) + (0,) * 20000), (0,) * 40000 + (1,))

    def test_least_turn_of_all_small_heights(self):
        for n, highest in [(1, 3), (2, 3), (3, 3), (4, 3), (5, 2), (6, 2), (8, 1), (10, 1)]:
            for heights in product(range(highest + 1), repeat=n):
                self.assertEqual(least_turn(heights), min(naive.turns(heights)))


class UnlikeTest(unittest.TestCase):
    def test_small_numbers(self):
        self.assertEqual(unlike_count(0, 1), 1)
        self.assertEqual(unlike_count(4, 1), 1)
        self.assertEqual(unlike_count(1, 2), 2)
        self.assertEqual(unlike_count(3, 2), 4)
        self.assertEqual(unlike_count(3, 3), 13)

    def test_against_trying_all_heights(self):
        for n, most in [(1, 6), (2, 6), (3, 4), (4, 3), (5, 2), (6, 1)]:
            for things in range(most + 1):
                classes = {min(naive.turns(heights)) for heights in naive.plain_heights(n, things)}
                self.assertEqual(unlike_count(things, n), len(classes))

    def test_heights_that_repeat_are_in_small_classes(self):
        heights = naive.plain_heights(4, 2)
        self.assertEqual(len(heights), 65)
        sizes = sorted(len(set(naive.turns(some))) for some in {min(naive.turns(some)) for some in heights})
        self.assertEqual(sizes, [1, 2, 2] + [4] * 15)
        self.assertEqual(unlike_count(2, 4), 18)

    def test_things_of_many_digits(self):
        things = HUGE
        self.assertEqual(unlike_count(things, 1), 1)
        self.assertEqual(unlike_count(things, 2), things + 1)
        self.assertEqual(unlike_count(things, 3), ((things + 1) ** 3 - things ** 3 - 1) // 3 + 1)
        four = (things + 1) ** 4 - things ** 4 + (things + 1) ** 2 - things ** 2 + 2
        self.assertEqual(unlike_count(things, 4), four // 4)

    def test_many_items(self):
        self.assertEqual(unlike_count(1, 101), (2 ** 101 - 2) // 101 + 1)
        for things, n in [(1, 12), (2, 36), (5, 60), (HUGE, 90)]:
            self.assertEqual(unlike_count(things, n), self.count_turn_by_turn(things, n))

    def count_turn_by_turn(self, things, n):
        """Return the average, over all turns, of the number of plain heights that the turn leaves as they are."""
        repeats = [min(d for d in range(1, n + 1) if n % d == 0 and k % d == 0 and self.shares(d, k, n))
                   for k in range(n)]
        return sum((things + 1) ** d - things ** d for d in repeats) // n

    def shares(self, d, k, n):
        """Return True if turning n items by k again and again turns them by d."""
        return d % n in {k * many % n for many in range(n)}

    def test_without_things(self):
        for n in [1, 2, 6, 97, 360, HUGE, HUGE + 7]:
            self.assertEqual(unlike_count(0, n), 1)


if __name__ == "__main__":
    unittest.main()
