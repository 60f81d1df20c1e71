import unittest
from itertools import product

import naive
from test_plain import NOT_PLAIN, PLAIN, PlainChecks
from test_states import HUGE
from throwskept.cards import cards_of, heights_at, heights_of, place, plain_count
from throwskept.errors import BadText, Clash, NoBridge, NoPlace, NotPlain, ThrowError
from throwskept.plain import is_plain, things_of

# (numbers of items, greatest number of things) that are small enough to try all heights
SMALL = [(1, 6), (2, 6), (3, 4), (4, 3), (5, 2), (6, 1)]

# (plain heights, their cards)
CARDS = [
    ((0,), (0,)),
    ((1,), (1,)),
    ((3,), (3,)),
    ((0, 0), (0, 0)),
    ((2, 0), (1, 0)),
    ((0, 2), (0, 1)),
    ((3, 1), (2, 1)),
    ((5, 1), (3, 1)),
    ((4, 0), (2, 0)),
    ((4, 4, 1), (3, 3, 1)),
    ((5, 3, 1), (3, 2, 1)),
    ((4, 2), (3, 2)),
    ((9, 7, 5, 3, 1), (5, 4, 3, 2, 1)),
    ((HUGE,), (HUGE,)),
    ((2 * HUGE, 0), (HUGE, 0)),
    ((2 * HUGE - 1, 1), (HUGE, 1)),
    ((HUGE, HUGE, HUGE), (HUGE, HUGE, HUGE)),
    ((3 * HUGE, 0, 0), (HUGE, 0, 0)),
    ((3 * HUGE - 2, 1, 1), (HUGE, 1, 1)),
]


class CardsTest(PlainChecks):
    def test_cards_and_back(self):
        for heights, cards in CARDS:
            self.assertEqual(cards_of(heights), cards)
            self.assertEqual(heights_of(cards), heights)

    def test_beat_by_beat(self):
        for n, most in SMALL:
            for things in range(most + 1):
                for heights in naive.plain_heights(n, things):
                    cards = naive.cards_beat_by_beat(heights)
                    self.assertEqual(cards_of(heights), cards)
                    self.assertEqual(max(cards), things)
                    self.assertEqual(heights_of(cards), heights)

    def test_longer_heights_beat_by_beat(self):
        for cards in [(3, 1, 4, 1, 5, 9, 2, 6, 5, 3, 5, 8), (0, 30, 0, 7, 2), tuple(range(15)), (20, 0, 0, 1, 0, 3)]:
            heights = heights_of(cards)
            self.assertEqual(naive.cards_beat_by_beat(heights), cards)
            self.assertEqual(cards_of(heights), cards)

    def test_heights_of_all_small_cards(self):
        for n, most in [(1, 9), (2, 6), (3, 5), (4, 3), (5, 2), (7, 1)]:
            found = {}
            for cards in product(range(most + 1), repeat=n):
                heights = heights_of(cards)
                self.assertNotIn(heights, found)
                found[heights] = cards
                self.assertIs(is_plain(heights), True)
                self.assertEqual(things_of(heights), max(cards))
                self.assertEqual(cards_of(heights), cards)

    def test_many_digits(self):
        for cards in [
            (HUGE, 3, 0, HUGE - 1),
            (0, HUGE ** 5, 1, HUGE, HUGE, 2, 0),
            tuple(HUGE * k + k * k for k in range(20)),
            (7, 10 ** 9, HUGE, 10 ** 30) * 5,
        ]:
            heights = heights_of(cards)
            self.assertIs(is_plain(heights), True)
            self.assertEqual(things_of(heights), max(cards))
            self.assertEqual(cards_of(heights), cards)

    def test_cards_of_heights_of_many_digits(self):
        for heights, things in PLAIN:
            cards = cards_of(heights)
            self.assertEqual(max(cards), things)
            self.assertEqual(heights_of(cards), heights)

    def test_not_plain(self):
        for heights in NOT_PLAIN:
            self.assert_not_plain(cards_of, heights)

    def test_answers_are_tuples(self):
        self.assertIs(type(cards_of((5, 1))), tuple)
        self.assertIs(type(heights_of((3, 1))), tuple)


class PlainCountTest(unittest.TestCase):
    def test_against_trying_all_heights(self):
        for n, most in SMALL:
            for things in range(most + 1):
                self.assertEqual(plain_count(things, n), len(naive.plain_heights(n, things)))

    def test_without_things(self):
        for n in [1, 2, 100, HUGE]:
            self.assertEqual(plain_count(0, n), 1)

    def test_many_digits(self):
        self.assertEqual(plain_count(HUGE, 1), 1)
        self.assertEqual(plain_count(HUGE, 2), 2 * HUGE + 1)
        self.assertEqual(plain_count(HUGE, 3), 3 * HUGE * HUGE + 3 * HUGE + 1)
        self.assertEqual(plain_count(1, 5000), 2 ** 5000 - 1)
        self.assertEqual(plain_count(HUGE, 77), (HUGE + 1) ** 77 - HUGE ** 77)


class PlaceTest(PlainChecks):
    def assert_no_place(self, *arguments):
        with self.assertRaises(NoPlace) as caught:
            heights_at(*arguments)
        self.assertIsInstance(caught.exception, ThrowError)
        self.assertIsInstance(caught.exception, ValueError)
        self.assertNotIsInstance(caught.exception, (Clash, NoBridge, NotPlain, BadText))

    def test_first_places(self):
        self.assertEqual([heights_at(1, k) for k in range(4)], [(0,), (1,), (2,), (3,)])
        # By things and cards: 0 0; 0 1, 1 0, 1 1; 0 2, 1 2, 2 0, 2 1, 2 2.
        heights = [(0, 0), (0, 2), (2, 0), (1, 1), (0, 4), (1, 3), (4, 0), (3, 1), (2, 2)]
        self.assertEqual([heights_at(2, k) for k in range(9)], heights)
        self.assertEqual([place(some) for some in heights], list(range(9)))

    def test_all_small_places_in_order(self):
        for n, most in SMALL:
            heights = [some for things in range(most + 1) for some in naive.plain_heights(n, things)]
            heights.sort(key=lambda some: (sum(some), naive.cards_beat_by_beat(some)))
            for index, some in enumerate(heights):
                self.assertEqual(place(some), index)
                self.assertEqual(heights_at(n, index), some)

    def test_first_and_last_place_with_so_many_things(self):
        for n in [1, 2, 3, 7, 40]:
            for things in [1, 2, 3, 9, 10 ** 9, HUGE]:
                first, last = things ** n, (things + 1) ** n - 1
                lowest, highest = (0,) * (n - 1) + (things,), (things,) * n
                self.assertEqual(cards_of(heights_at(n, first)), lowest)
                self.assertEqual(place(heights_of(lowest)), first)
                self.assertEqual(heights_at(n, last), highest)
                self.assertEqual(place(highest), last)
                self.assertEqual(things_of(heights_at(n, first - 1)), things - 1)

    def test_there_and_back_with_many_digits(self):
        for n in [1, 2, 3, 5, 12, 50]:
            for index in [HUGE, HUGE ** 3 + 12345, 7 ** 400, 10 ** 1000 - 1]:
                heights = heights_at(n, index)
                self.assertEqual(len(heights), n)
                self.assertIs(is_plain(heights), True)
                self.assertEqual(place(heights), index)
                self.assertLessEqual(things_of(heights) ** n, index)
                self.assertGreater((things_of(heights) + 1) ** n, index)

    def test_neighbours_with_many_digits(self):
        for n in [2, 3, 6]:
            for index in [10 ** 50, HUGE + 4321, 3 ** 200]:
                keys = []
                for k in range(index, index + 20):
                    heights = heights_at(n, k)
                    keys.append((things_of(heights), cards_of(heights)))
                self.assertEqual(keys, sorted(set(keys)))

    def test_places_of_heights_of_many_digits(self):
        self.assertEqual(place((HUGE,)), HUGE)
        self.assertEqual(place((0, 2 * HUGE)), HUGE * HUGE)
        self.assertEqual(place((HUGE, HUGE)), (HUGE + 1) ** 2 - 1)
        for heights, _ in PLAIN:
            self.assertEqual(heights_at(len(heights), place(heights)), heights)

    def test_many_items(self):
        self.assertEqual(heights_at(300, 0), (0,) * 300)
        self.assertEqual(place((0,) * 300), 0)
        self.assertEqual(place((1,) * 300), 2 ** 300 - 1)
        self.assertEqual(heights_at(300, 1), (0,) * 299 + (300,))
        self.assertEqual(place(heights_at(300, 10 ** 200)), 10 ** 200)

    def test_negative_places(self):
        for index in [-1, -2, -HUGE]:
            for n in [1, 2, 10]:
                self.assert_no_place(n, index)

    def test_not_plain(self):
        for heights in NOT_PLAIN:
            self.assert_not_plain(place, heights)


if __name__ == "__main__":
    unittest.main()
