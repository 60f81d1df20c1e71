"""What the document promises over the whole program: its modules together."""

import unittest

import naive
from test_bridges import BridgeChecks
from test_states import HUGE
from throwskept.bridges import bridge, bridge_into, bridge_length
from throwskept.cards import cards_of, heights_at, heights_of, place
from throwskept.judge import accepts, judge
from throwskept.numbered import leads, plain_bridge_at, plain_bridge_count, plain_bridge_number
from throwskept.plain import is_plain, least_turn, pattern_of, things_of, turned
from throwskept.show import Show
from throwskept.states import after, run, start_of, state_at, thing_count
from throwskept.texts import read_heights, write_heights


def rows_of(landing):
    """Return the state of one hand for a plain state."""
    return tuple((int(at in landing),) for at in range(max(landing, default=-1) + 1))


def landing_of(state):
    """Return the plain state for a state of one hand with at most one thing at a beat."""
    return tuple(at for at, row in enumerate(state) if row[0])


def heights_of_beats(beats):
    return [throws[0][0] if throws else 0 for throws, in beats]


class PlacesAndShowsTest(BridgeChecks):
    def test_shows_of_plain_heights_by_their_places(self):
        for n, most, step in [(1, 8, 1), (2, 30, 1), (3, 80, 1), (4, 300, 7), (6, 900, 31)]:
            for index in range(0, most, step):
                heights = heights_at(n, index)
                show = Show(pattern_of(heights))
                start = show.state()
                self.assertEqual(thing_count(start), things_of(heights))
                show.go(n)
                self.assertEqual((show.state(), show.due()), (start, 0))
                self.assertEqual(show.thrown(), list(naive.one_hand(*heights)))
                self.assertEqual(place(heights), index)

    def test_changes_through_all_places_with_as_many_things(self):
        for n, things in [(2, 3), (3, 2), (4, 2)]:
            show = Show(pattern_of((things,)))
            state, thrown = show.state(), []
            for index in range(things ** n, (things + 1) ** n):
                pattern = pattern_of(heights_at(n, index))
                expected = [naive.least_length(state, naive.state_of_past(pattern, at)) for at in range(n)]
                length = show.change(pattern)
                self.assertEqual((length, show.due()), (min(expected), expected.index(min(expected))))
                show.go(index)
                beats = show.thrown()[len(thrown):]
                self.assertEqual(len(beats), length + index)
                state, clash = naive.throw_all(state, beats)
                self.assertIsNone(clash)
                self.assertEqual(show.state(), state)
                thrown = thrown + beats
            self.assertEqual(show.thrown(), thrown)
            self.assert_no_bridge(show.change, pattern_of(heights_at(n, (things + 1) ** n)))
            self.assert_no_bridge(show.change, pattern_of(heights_at(n, things ** n - 1)))

    def test_texts_of_shows(self):
        for text in ["531", "97531", "b01", "0", "z", "88441", "a2222222"]:
            heights = read_heights(text)
            self.assertIs(is_plain(heights), True)
            show = Show(pattern_of(heights))
            show.go(2 * len(text))
            self.assertEqual(write_heights(heights_of_beats(show.thrown())), text * 2)
            self.assertEqual(heights_of(cards_of(heights)), heights)
            self.assertEqual(naive.cards_beat_by_beat(heights), cards_of(heights))
        self.assertIs(is_plain(read_heights("543")), False)
        self.assert_clash(0, 0, Show, pattern_of(read_heights("54")))

    def test_papers_of_shows(self):
        for index in range(0, 200, 3):
            show = Show(pattern_of(heights_at(3, index)))
            for _ in range(3):
                turn = pattern_of(turned(heights_at(3, index), show.due()))
                self.assertEqual(judge(turn), ("runs", show.state()))
                self.assertIs(accepts(turn, ("runs", show.state())), True)
                show.go(1)


class PlainBridgesAndBridgesTest(BridgeChecks):
    def test_the_least_length_with_a_plain_bridge(self):
        states = naive.plain_states(3, 4)
        for one in states:
            for other in states:
                if len(one) == len(other):
                    length = bridge_length(rows_of(one), rows_of(other))
                    counts = [plain_bridge_count(one, other, k) for k in range(length + 2)]
                    self.assertEqual([count > 0 for count in counts[:length + 1]], [False] * length + [True])
                    heights = heights_of_beats(bridge(rows_of(one), rows_of(other)))
                    self.assertIs(leads(one, heights, other), True)
                    number = plain_bridge_number(one, other, heights)
                    self.assertEqual(plain_bridge_at(one, other, length, number), heights)

    def test_numbered_bridges_are_bridges(self):
        one, other = (0, 1, 3, 8), (0, 2, 4, 5)
        count = plain_bridge_count(one, other, 60)
        for number in [0, count // 2, count - 1]:
            beats = list(pattern_of(tuple(plain_bridge_at(one, other, 60, number))))
            self.assertEqual(run(rows_of(one), beats), rows_of(other))
            self.assert_leads(rows_of(one), beats, rows_of(other), 1)

    def test_bridges_from_a_state_to_itself_are_plain_heights(self):
        # Each one, repeated, is plain heights that run from this state.
        for state in naive.plain_states(3, 4):
            for k in range(1, 6):
                for number in range(plain_bridge_count(state, state, k)):
                    heights = tuple(plain_bridge_at(state, state, k, number))
                    self.assertIs(is_plain(heights), True)
                    self.assertEqual(start_of(pattern_of(heights)), rows_of(state))
                    self.assertEqual(landing_of(start_of(pattern_of(heights))), state)

    def test_bridges_of_changes_have_numbers(self):
        show = Show(pattern_of((5, 3, 1)))
        one = landing_of(show.state())
        length = show.change(pattern_of((9, 0, 0)))
        other = landing_of(show.state())
        heights = heights_of_beats(show.thrown())
        self.assertEqual(len(heights), length)
        number = plain_bridge_number(one, other, heights)
        self.assertIn(number, range(plain_bridge_count(one, other, length)))


class ArgumentsTest(BridgeChecks):
    def test_lists_that_are_passed_stay(self):
        beats = [(((3, 0),),), ((),), ((),)]
        heights = [3, 0, 0]
        run(((1,),), beats)
        leads((0,), heights, (0,))
        plain_bridge_number((0,), (0,), heights)
        self.assert_clash(0, 0, run, ((2,),), beats)
        self.assert_no_bridge(plain_bridge_number, (0, 1), (0, 1), heights)
        self.assertEqual(beats, [(((3, 0),),), ((),), ((),)])
        self.assertEqual(heights, [3, 0, 0])

    def test_lists_that_are_returned_are_apart(self):
        calls = [
            lambda: bridge(((1,), (1,)), ((1,), (0,), (1,))),
            lambda: bridge_into(((1,), (0,), (1,)), pattern_of((2,)))[1],
            lambda: plain_bridge_at((0, 1), (0, 1), 5, 3),
        ]
        for call in calls:
            first = call()
            told = list(first)
            self.assertNotEqual(told, [])
            first.clear()
            self.assertEqual(call(), told)


class ManyDigitsTest(unittest.TestCase):
    def test_nothing_is_gone_through(self):
        heights = (HUGE + 1, HUGE - 1)
        self.assertEqual(things_of(heights), HUGE)
        self.assertEqual(turned(heights, HUGE + 1), heights[::-1])
        self.assertEqual(least_turn(heights), heights[::-1])
        self.assertEqual(heights_at(2, place(heights)), heights)
        self.assertEqual(things_of(heights_at(5, HUGE ** 5 + 17)), HUGE)
        state = tuple(range(0, 60, 3))
        count = plain_bridge_count(state, state, 90)
        self.assertGreater(count, HUGE)
        heights = plain_bridge_at(state, state, 90, count - HUGE)
        self.assertEqual(plain_bridge_number(state, state, heights), count - HUGE)

    def test_things_at_far_beats(self):
        far = ((0,),) * 5000 + ((1,),)
        self.assertEqual(after(((1,),), (((5001, 0),),)), far)
        self.assertEqual(bridge_length(far, ((1,),)), 5000)
        self.assertEqual(plain_bridge_count((5000,), (0,), 5000), 1)
        self.assertEqual(plain_bridge_count((5000,), (0,), 4999), 0)
        self.assertEqual(state_at(pattern_of((5001, *[0] * 5000)), 1), ((0,),) * 5000 + ((1,),))


if __name__ == "__main__":
    unittest.main()
