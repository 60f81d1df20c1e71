import unittest

import naive
from naive import one_hand
from test_bridges import BridgeChecks
from test_states import FAILING, HUGE, RUNNING
from throwskept.bridges import bridge_into
from throwskept.plain import pattern_of
from throwskept.show import Show


class Told:
    """A show in the words of the document, thrown step by step."""

    def __init__(self, pattern):
        self.pattern = pattern
        self.due = 0
        self.state = naive.state_of_past(pattern, 0)
        self.thrown = []

    def throw(self, beat):
        self.state, clash = naive.throw(self.state, beat)
        assert clash is None
        self.thrown.append(beat)

    def go(self, count):
        for _ in range(count):
            self.throw(self.pattern[self.due])
            self.due = self.due + 1 if self.due + 1 < len(self.pattern) else 0

    def change(self, pattern, beats, index):
        for beat in beats:
            self.throw(beat)
        self.pattern, self.due = pattern, index


class ShowChecks(BridgeChecks):
    def assert_as_told(self, show, told):
        self.assertEqual(show.state(), told.state)
        self.assertEqual(show.due(), told.due)
        self.assertEqual(show.thrown(), told.thrown)

    def assert_goes(self, show, told, count):
        self.assertIsNone(show.go(count))
        told.go(count)
        self.assert_as_told(show, told)

    def assert_changes(self, show, told, pattern):
        """Check the bridge that the show throws to the pattern, where there is one, against all indexes."""
        states = [naive.state_of_past(pattern, index) for index in range(len(pattern))]
        lengths = [naive.least_length(told.state, state) for state in states]
        index = lengths.index(min(lengths))
        before = list(told.thrown)
        self.assertEqual(show.change(pattern), min(lengths))
        beats = show.thrown()[len(before):]
        self.assertEqual(show.thrown(), before + beats)
        self.assertEqual(len(beats), min(lengths))
        self.assert_leads(told.state, beats, states[index], len(pattern[0]))
        told.change(pattern, beats, index)
        self.assertEqual(told.state, states[index])
        self.assert_as_told(show, told)

    def assert_unchanged_by_errors(self, show, told):
        hands = len(told.pattern[0])
        for pattern, index, hand in FAILING:
            if len(pattern[0]) == hands:
                self.assert_clash(index, hand, show.change, pattern)
                self.assert_as_told(show, told)
        things = sum(map(sum, told.state))
        for number in [0, things - 1, things + 1, 2 * things + 5]:
            if number >= 0 and number != things:
                empty = ((),) * (hands - 1)
                self.assert_no_bridge(show.change, (((((1, hands - 1),) * number), *empty)[::-1],))
                self.assert_as_told(show, told)


class GoTest(ShowChecks):
    def test_at_first(self):
        for pattern, states in RUNNING:
            show = Show(pattern)
            self.assertEqual(show.state(), states[0])
            self.assertEqual(show.due(), 0)
            self.assertEqual(show.thrown(), [])

    def test_not_even(self):
        for pattern, index, hand in FAILING:
            self.assert_clash(index, hand, Show, pattern)

    def test_beat_by_beat(self):
        for pattern, states in RUNNING:
            show, told = Show(pattern), Told(pattern)
            for beat in range(1, 2 * len(pattern) + 2):
                self.assert_goes(show, told, 1)
                self.assertEqual(show.due(), beat % len(pattern))
                self.assertEqual(show.state(), states[beat % len(pattern)])

    def test_several_beats_at_once(self):
        for pattern, _ in RUNNING:
            show, told = Show(pattern), Told(pattern)
            for count in [0, 2, 0, 1, 3, len(pattern), 5, 7 * len(pattern) + 1]:
                self.assert_goes(show, told, count)

    def test_all_small_patterns(self):
        for pattern in naive.SMALL_PATTERNS:
            spots = naive.uneven(pattern)
            if spots:
                self.assert_clash(*spots[0], Show, pattern)
            else:
                show, told = Show(pattern), Told(pattern)
                self.assert_goes(show, told, 1)
                self.assert_goes(show, told, len(pattern) + 1)

    def test_many_beats(self):
        show = Show(one_hand(5, 3, 1))
        show.go(100000)
        self.assertEqual(show.due(), 1)
        self.assertEqual(show.thrown(), list(one_hand(5, 3, 1)) * 33333 + list(one_hand(5)))

    def test_counts_of_many_digits(self):
        show = Show(one_hand(5, 3, 1))
        show.go(HUGE)
        self.assertEqual(show.due(), HUGE % 3)
        show.go(3 * HUGE)
        show.go(1)
        self.assertEqual(show.due(), (HUGE + 1) % 3)
        self.assertEqual(show.state(), naive.state_of_past(one_hand(5, 3, 1), (HUGE + 1) % 3))
        self.assertEqual(show.change(one_hand(3)), 1)
        self.assertEqual(show.state(), ((1,), (1,), (1,)))

    def test_heights_of_many_digits(self):
        show = Show(one_hand(HUGE + 1, HUGE - 1))
        show.go(3)
        self.assertEqual(show.due(), 1)
        self.assertEqual(show.thrown(), list(one_hand(HUGE + 1, HUGE - 1, HUGE + 1)))
        self.assert_no_bridge(show.change, one_hand(5, 1))
        self.assert_no_bridge(show.change, one_hand(HUGE + 1))
        self.assert_clash(0, 0, show.change, one_hand(HUGE, HUGE + 1))
        show.go(1)
        self.assertEqual(show.due(), 0)
        self.assertEqual(show.thrown(), list(one_hand(HUGE + 1, HUGE - 1)) * 2)


class ChangeTest(ShowChecks):
    def test_an_example(self):
        show = Show(one_hand(3))
        show.go(2)
        self.assertEqual(show.change(one_hand(5, 1)), 1)
        self.assertEqual(show.due(), 0)
        self.assertEqual(show.state(), ((1,), (1,), (0,), (1,)))
        show.go(3)
        self.assertEqual(show.thrown(), list(one_hand(3, 3, 4, 5, 1, 5)))
        self.assertEqual(show.due(), 1)
        # From here two beats lead to the states of 4 4 1 at the indexes 0 and 2, and one beat to that at the index 1.
        self.assertEqual(show.state(), ((1,), (0,), (1,), (0,), (1,)))
        self.assertEqual(show.change(one_hand(4, 4, 1)), 1)
        self.assertEqual(show.due(), 1)
        self.assertEqual(show.state(), ((1,), (1,), (0,), (1,)))
        self.assertEqual(show.thrown(), list(one_hand(3, 3, 4, 5, 1, 5, 1)))

    def test_no_beat_is_needed(self):
        show = Show(one_hand(3))
        self.assertEqual(show.change(one_hand(4, 1, 4)), 0)
        self.assertEqual(show.due(), 2)
        show.go(2)
        self.assertEqual(show.thrown(), list(one_hand(4, 4)))
        self.assertEqual(show.change(one_hand(3, 3, 3)), 1)
        self.assertEqual(show.due(), 0)

    def test_the_least_of_several_indexes(self):
        show = Show(one_hand(3))
        self.assertEqual(show.change(one_hand(1, 5, 1, 5)), 1)
        self.assertEqual(show.due(), 1)
        self.assertEqual(show.change(one_hand(3, 3, 3, 3)), 1)
        self.assertEqual(show.due(), 0)

    def test_to_the_current_pattern(self):
        show = Show(one_hand(3, 3, 3))
        show.go(2)
        self.assertEqual(show.change(one_hand(3, 3, 3)), 0)
        self.assertEqual(show.due(), 0)
        show = Show(one_hand(4, 4, 1))
        show.go(2)
        self.assertEqual(show.change(one_hand(4, 4, 1)), 0)
        self.assertEqual(show.due(), 2)
        show.go(1)
        self.assertEqual(show.thrown(), list(one_hand(4, 4, 1)))
        for pattern, _ in RUNNING:
            show, told = Show(pattern), Told(pattern)
            for count in [0, 1, len(pattern), 2]:
                self.assert_goes(show, told, count)
                self.assert_changes(show, told, pattern)

    def test_between_all_patterns(self):
        for pattern, _ in RUNNING:
            for other, _ in RUNNING:
                if len(pattern[0]) == len(other[0]):
                    show, told = Show(pattern), Told(pattern)
                    for count in range(len(pattern)):
                        self.assert_goes(show, told, 1 + count)
                        if naive.least_length(told.state, naive.state_of_past(other, 0)) is None:
                            self.assert_no_bridge(show.change, other)
                            self.assert_as_told(show, told)
                        else:
                            self.assert_changes(show, told, other)
                            self.assert_goes(show, told, 2)
                            self.assert_changes(show, told, pattern)

    def test_small_patterns_one_after_another(self):
        for patterns, most in [(naive.patterns(1, 3, 4, 1), 4), (naive.patterns(1, 2, 4, 2), 4),
                               (naive.patterns(2, 2, 2, 1), 4)]:
            even = [pattern for pattern in patterns if not naive.uneven(pattern)]
            for things in range(most + 1):
                same = [some for some in even if sum(map(sum, naive.state_of_past(some, 0))) == things]
                for step in [1, 7, 20]:
                    if same:
                        self.assert_changes_all(same * step, step)

    def assert_changes_all(self, patterns, step):
        show, told = Show(patterns[0]), Told(patterns[0])
        for number, pattern in enumerate(patterns[::step]):
            self.assert_changes(show, told, pattern)
            self.assert_goes(show, told, number % 4)

    def test_as_bridge_into(self):
        for pattern, _ in RUNNING:
            show = Show(pattern)
            show.go(1)
            index, beats = bridge_into(show.state(), pattern)
            self.assertEqual(show.change(pattern), len(beats))
            self.assertEqual(show.due(), index)

    def test_errors_change_nothing(self):
        for pattern, _ in RUNNING:
            show, told = Show(pattern), Told(pattern)
            self.assert_unchanged_by_errors(show, told)
            self.assert_goes(show, told, len(pattern) + 1)
            self.assert_unchanged_by_errors(show, told)
            self.assert_changes(show, told, pattern)
            self.assert_unchanged_by_errors(show, told)
            self.assert_goes(show, told, 1)

    def test_more_or_fewer_things(self):
        show = Show(one_hand(4, 4, 1))
        show.go(1)
        for pattern in [one_hand(4), one_hand(2), one_hand(0), one_hand(6, 2), one_hand(3, 3, 0), one_hand(HUGE)]:
            self.assert_no_bridge(show.change, pattern)
        self.assertEqual(show.due(), 1)
        self.assertEqual(show.thrown(), list(one_hand(4)))
        self.assertEqual(show.state(), ((1,), (1,), (0,), (1,)))

    def test_not_even_comes_ahead_of_no_bridge(self):
        show = Show(one_hand(1))
        self.assert_clash(0, 0, show.change, one_hand(7, 6))
        self.assert_clash(1, 0, show.change, one_hand(3, 1, 2, 0))
        self.assert_clash(1, 0, show.change, one_hand(3 * HUGE, 1, 3))
        self.assertEqual(show.change(one_hand(2, 0)), 0)

    def test_without_things(self):
        show = Show(one_hand(0, 0))
        show.go(3)
        self.assertEqual((show.state(), show.due()), ((), 1))
        self.assertEqual(show.change(one_hand(0, 0, 0)), 0)
        self.assertEqual((show.state(), show.due()), ((), 0))
        self.assert_no_bridge(show.change, one_hand(2, 0))
        self.assertEqual(show.thrown(), [((),)] * 3)

    def test_several_hands(self):
        show, told = Show(((((2, 1),), ((2, 0),)),)), Told(((((2, 1),), ((2, 0),)),))
        self.assert_goes(show, told, 3)
        self.assert_changes(show, told, (((), ((4, 1),)),))
        self.assert_goes(show, told, 2)
        self.assert_changes(show, told, ((((3, 0), (5, 1)), ()), ((), ()), ((), ((4, 0),))))
        self.assert_goes(show, told, 4)
        self.assert_changes(show, told, ((((2, 1),), ((2, 0),)),))

    def test_far_and_many(self):
        show, told = Show(one_hand(600, 0, 0)), Told(one_hand(600, 0, 0))
        self.assert_goes(show, told, 2)
        self.assert_changes(show, told, one_hand(*[200] * 7))
        self.assert_changes(show, told, one_hand(399, 201, 0))


class ListsTest(ShowChecks):
    def test_a_later_change_of_the_list_has_no_effect(self):
        show = Show(one_hand(3))
        show.go(2)
        show.change(one_hand(5, 1))
        show.go(2)
        thrown = show.thrown()
        told = list(thrown)
        thrown.append(5)
        thrown[0] = 6
        del thrown[2]
        self.assertEqual(show.thrown(), told)
        self.assertEqual((show.state(), show.due()), (((1,), (1,), (0,), (1,)), 0))
        show.go(1)
        self.assertEqual(show.thrown(), told + list(one_hand(5)))
        self.assertEqual(told, list(one_hand(3, 3, 4, 5, 1)))

    def test_each_call_returns_another_list(self):
        show = Show(one_hand(3))
        first = show.thrown()
        first.append(1)
        self.assertEqual(show.thrown(), [])
        show.go(1)
        self.assertIsNot(show.thrown(), show.thrown())

    def test_kinds(self):
        show = Show(pattern_of((4, 4, 1)))
        show.go(1)
        self.assertIs(type(show.change(pattern_of((3,)))), int)
        self.assertIs(type(show.state()), tuple)
        self.assertEqual({type(row) for row in show.state()}, {tuple})
        self.assertIs(type(show.due()), int)
        self.assertIs(type(show.thrown()), list)
        self.assertEqual({type(beat) for beat in show.thrown()}, {tuple})

    def test_two_shows_are_apart(self):
        one, other = Show(one_hand(5, 1)), Show(one_hand(5, 1))
        one.go(1)
        one.change(one_hand(3))
        self.assertEqual((other.due(), other.thrown()), (0, []))
        self.assertEqual(other.state(), ((1,), (1,), (0,), (1,)))


if __name__ == "__main__":
    unittest.main()
