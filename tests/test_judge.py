import unittest

import naive
from naive import one_hand
from test_states import FAILING, HUGE, RUNNING
from throwskept.judge import accepts, judge


def moved(state, k, hand, number):
    """Return the state with the number added at a row and a hand."""
    hands = len(state[0])
    rows = [list(row) for row in state] + [[0] * hands for _ in range(k + 1 - len(state))]
    rows[k][hand] += number
    return naive.trimmed(rows)


def near_states(state):
    """Return the states with one thing more, less, or elsewhere."""
    hands = range(len(state[0]))
    spots = [(k, hand) for k in range(len(state) + 2) for hand in hands]
    near = [moved(state, *spot, 1) for spot in spots]
    for k, hand in spots[:-2 * len(hands)]:
        if state[k][hand]:
            less = moved(state, k, hand, -1)
            near.append(less)
            near.extend(moved(less or ((0,) * len(hands),), *spot, 1) for spot in spots if spot != (k, hand))
    return near


class JudgeTest(unittest.TestCase):
    def test_running(self):
        for pattern, states in RUNNING:
            self.assertEqual(judge(pattern), ("runs", states[0]))

    def test_failing(self):
        for pattern, index, hand in FAILING:
            self.assertEqual(judge(pattern), ("fails", index, hand))

    def test_a_paper_is_a_tuple(self):
        self.assertIs(type(judge(one_hand(3))), tuple)
        self.assertIs(type(judge(one_hand(4, 3))), tuple)

    def test_all_small_patterns(self):
        for pattern in naive.SMALL_PATTERNS:
            spots = naive.uneven(pattern)
            paper = ("fails", *spots[0]) if spots else ("runs", naive.state_of_past(pattern, 0))
            self.assertEqual(judge(pattern), paper)
            self.assertIs(accepts(pattern, paper), True)


class AcceptsStateTest(unittest.TestCase):
    def test_the_start(self):
        for pattern, states in RUNNING:
            self.assertIs(accepts(pattern, ("runs", states[0])), True)

    def test_states_near_the_start(self):
        for pattern, states in RUNNING:
            if states[0]:
                for state in near_states(states[0]):
                    self.assertNotEqual(state, states[0])
                    self.assertIs(accepts(pattern, ("runs", state)), False)
                self.assertIs(accepts(pattern, ("runs", ())), False)

    def test_state_of_another_index(self):
        for pattern, states in RUNNING:
            for state in states[1:]:
                self.assertIs(accepts(pattern, ("runs", state)), state == states[0])

    def test_things_where_the_pattern_throws_none(self):
        self.assertIs(accepts(one_hand(0), ("runs", ((1,),))), False)
        self.assertIs(accepts(one_hand(0), ("runs", ((0,), (1,)))), False)
        self.assertIs(accepts(((((1, 0),), ()),), ("runs", ((1, 0), (0, 0), (0, 1)))), False)
        self.assertIs(accepts(one_hand(0, 0), ("runs", ((0,), (0,), (0,), (2,)))), False)

    def test_patterns_that_do_not_run(self):
        for pattern, _, _ in FAILING:
            hands = len(pattern[0])
            for state in naive.states(hands, 2, 1):
                self.assertIs(accepts(pattern, ("runs", state)), False)

    def test_heights_and_numbers_of_many_digits(self):
        self.assertIs(accepts(one_hand(HUGE), ("runs", ((1,),))), False)
        self.assertIs(accepts(one_hand(HUGE), ("runs", ())), False)
        self.assertIs(accepts(one_hand(2 * HUGE, 0), ("runs", ((1,), (0,), (1,)))), False)
        self.assertIs(accepts(one_hand(1), ("runs", ((HUGE,),))), False)
        self.assertIs(accepts(one_hand(1), ("runs", ((1,), (HUGE,)))), False)

    def test_exactly_one_state(self):
        for pattern in naive.patterns(1, 2, 3, 2) + naive.patterns(1, 3, 3, 1):
            self.assert_only_start(pattern, naive.states(1, 4, 2))
        for pattern in naive.patterns(2, 1, 2, 1):
            self.assert_only_start(pattern, naive.states(2, 3, 2))

    def assert_only_start(self, pattern, states):
        accepted = [state for state in states if accepts(pattern, ("runs", state))]
        expected = [] if naive.uneven(pattern) else [naive.state_of_past(pattern, 0)]
        self.assertEqual(accepted, expected)


class AcceptsSpotTest(unittest.TestCase):
    def test_each_spot_and_those_around(self):
        patterns = [pattern for pattern, _ in RUNNING] + [pattern for pattern, _, _ in FAILING]
        for pattern in patterns:
            spots = naive.uneven(pattern)
            for index in range(-len(pattern) - 1, 2 * len(pattern) + 1):
                for hand in range(-len(pattern[0]) - 1, 2 * len(pattern[0]) + 1):
                    expected = (index, hand) in spots
                    self.assertIs(accepts(pattern, ("fails", index, hand)), expected)

    def test_every_uneven_spot_is_accepted(self):
        pattern = ((((1, 1),), ()), (((1, 1),), ()))
        for spot in [(0, 0), (0, 1), (1, 0), (1, 1)]:
            self.assertIs(accepts(pattern, ("fails", *spot)), True)

    def test_outside_of_the_pattern(self):
        pattern = one_hand(4, 3)
        self.assertIs(accepts(pattern, ("fails", 0, 0)), True)
        self.assertIs(accepts(pattern, ("fails", 1, 0)), True)
        for index, hand in [(2, 0), (-1, 0), (-2, 0), (0, 1), (0, -1), (3, 0), (0, 2)]:
            self.assertIs(accepts(pattern, ("fails", index, hand)), False)

    def test_many_digits(self):
        pattern = one_hand(4, 3)
        for far in [HUGE, -HUGE, 2 * HUGE + 1]:
            self.assertIs(accepts(pattern, ("fails", far, 0)), False)
            self.assertIs(accepts(pattern, ("fails", 0, far)), False)
            self.assertIs(accepts(pattern, ("fails", far, far)), False)
        self.assertIs(accepts(one_hand(HUGE, HUGE + 1), ("fails", 0, 0)), True)
        self.assertIs(accepts(one_hand(HUGE), ("fails", 0, 0)), False)


if __name__ == "__main__":
    unittest.main()
