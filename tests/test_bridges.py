import unittest

import naive
from naive import one_hand
from test_states import FAILING, HUGE, RUNNING, ClashChecks
from throwskept.bridges import bridge, bridge_into, bridge_length
from throwskept.errors import BadText, Clash, NoBridge, NoPlace, NotPlain, ThrowError


class BridgeChecks(ClashChecks):
    def assert_no_bridge(self, function, *arguments):
        with self.assertRaises(NoBridge) as caught:
            function(*arguments)
        self.assertIsInstance(caught.exception, ThrowError)
        self.assertIsInstance(caught.exception, ValueError)
        self.assertNotIsInstance(caught.exception, (Clash, NoPlace, NotPlain, BadText))

    def assert_leads(self, one, beats, other, hands):
        """Check the kinds of the beats, the order of their throws, and where they lead, beat by beat."""
        self.assertIs(type(beats), list)
        state = one
        for beat in beats:
            self.assertEqual([type(beat), len(beat)], [tuple, hands])
            for throws in beat:
                self.assertIs(type(throws), tuple)
                self.assertEqual(list(throws), sorted(throws))
                for throw in throws:
                    self.assertEqual([type(throw), type(throw[0]), type(throw[1])], [tuple, int, int])
                    self.assertGreater(throw[0], 0)
                    self.assertIn(throw[1], range(hands))
            state, clash = naive.throw(state, beat)
            self.assertIsNone(clash)
        self.assertEqual(state, other)


# (one state, another one, the least length)
LENGTHS = [
    (((1,),), ((1,),), 0),
    (((1,),), ((0,), (1,)), 1),
    (((0,), (1,)), ((1,),), 1),
    (((0,), (0,), (1,)), ((1,),), 2),
    (((0,), (0,), (1,)), ((0,), (1,)), 1),
    (((0,), (0,), (1,)), ((0,), (0,), (0,), (0,), (1,)), 3),
    (((1,), (1,), (1,)), ((1,), (1,), (1,)), 0),
    (((1,), (1,), (1,)), ((1,), (1,), (0,), (1,)), 1),
    (((1,), (1,), (1,)), ((1,), (0,), (1,), (0,), (1,)), 2),
    (((1,), (0,), (1,), (0,), (1,)), ((1,), (1,), (1,)), 2),
    (((2,), (1,)), ((1,), (2,)), 1),
    (((1,), (2,)), ((2,), (1,)), 1),
    (((2,), (2,)), ((1,), (2,), (1,)), 2),
    (((0,), (2,)), ((2,),), 1),
    (((1,), (0,), (1,)), ((0,), (2,)), 1),
    (((1,), (0,), (1,)), ((0,), (0,), (2,)), 3),
    (((1, 0),), ((0, 1),), 1),
    (((1, 1),), ((1, 1),), 0),
    (((1, 0), (0, 1)), ((0, 1), (1, 0)), 1),
    (((1, 0), (0, 1)), ((1, 0), (1, 0)), 2),
    (((0, 0), (2, 1)), ((1, 2),), 2),
    (((0, 0), (2, 1)), ((2, 1),), 1),
]


class LengthTest(BridgeChecks):
    def test_lengths(self):
        for one, other, length in LENGTHS:
            self.assertEqual(bridge_length(one, other), length)
            beats = bridge(one, other)
            self.assertEqual(len(beats), length)
            self.assert_leads(one, beats, other, len(one[0]))

    def test_a_state_and_itself(self):
        for state in naive.states(1, 3, 2) + naive.states(2, 2, 2) + naive.states(3, 1, 1):
            self.assertEqual(bridge_length(state, state), 0)
            self.assertEqual(bridge(state, state), [])

    def test_more_or_fewer_things(self):
        for one, other in [
            (((1,),), ((2,),)),
            (((2,),), ((1,),)),
            (((1,), (1,)), ((1,),)),
            (((1, 0),), ((1, 1),)),
            (((0, 1), (1, 1)), ((1, 1),)),
            (((HUGE,),), ((HUGE + 1,),)),
        ]:
            self.assert_no_bridge(bridge_length, one, other)
            self.assert_no_bridge(bridge, one, other)

    def test_state_without_things(self):
        self.assertEqual(bridge_length((), ()), 0)
        self.assertEqual(bridge((), ()), [])
        for state in [((1,),), ((0, 0), (0, 2)), ((0, 0, 1),)]:
            for one, other in [((), state), (state, ())]:
                self.assert_no_bridge(bridge_length, one, other)
                self.assert_no_bridge(bridge, one, other)

    def test_numbers_of_many_digits(self):
        self.assertEqual(bridge_length(((HUGE,),), ((HUGE,),)), 0)
        self.assertEqual(bridge(((HUGE, HUGE), (1, 0)), ((HUGE, HUGE), (1, 0))), [])
        self.assertEqual(bridge_length(((HUGE,),), ((HUGE - 1,), (1,))), 1)
        self.assertEqual(bridge_length(((1,), (HUGE,)), ((HUGE - 1,), (2,))), 2)
        self.assertEqual(bridge(((1,), (HUGE,)), ((HUGE,), (1,))), [(((2, 0),),)])
        self.assertEqual(bridge(((0, 1), (HUGE, 7)), ((HUGE, 8),)), [((), ((1, 1),))])

    def test_many_rows(self):
        far = ((0,),) * 20000 + ((1,),)
        self.assertEqual(bridge_length(far, ((1,),)), 20000)
        self.assertEqual(bridge(far, ((1,),)), [((),)] * 20000)
        self.assertEqual(bridge(((1,),), far), [(((20001, 0),),)])
        self.assertEqual(bridge_length(((1,),) * 3000, ((1,), (0,)) * 2999 + ((1,),)), 2999)

    def test_several_throws_of_a_hand(self):
        self.assertEqual(bridge(((3,),), ((1,), (1,), (1,))), [(((1, 0), (2, 0), (3, 0)),)])
        self.assertEqual(bridge(((3, 0),), ((0, 2), (0, 0), (0, 1))), [(((1, 1), (1, 1), (3, 1)), ())])
        one, other = ((2, 2),), ((0, 1), (1, 1), (1, 0))
        self.assert_leads(one, bridge(one, other), other, 2)

    def test_a_later_change_of_the_list_has_no_effect(self):
        one, other = ((1,), (1,), (1,)), ((1,), (0,), (1,), (0,), (1,))
        beats = bridge(one, other)
        told = list(beats)
        beats.append(5)
        beats[0] = 6
        self.assertEqual(bridge(one, other), told)


class WalkTest(BridgeChecks):
    def assert_lengths_of_a_walk(self, states, hands, highest):
        for one in states:
            lengths = naive.walk_lengths(one, hands, highest)
            for other in states:
                if other not in lengths:
                    self.assert_no_bridge(bridge_length, one, other)
                    self.assert_no_bridge(bridge, one, other)
                    self.assertIsNone(naive.least_length(one, other))
                    continue
                self.assertEqual(bridge_length(one, other), lengths[other])
                self.assertEqual(naive.least_length(one, other), lengths[other])
                beats = bridge(one, other)
                self.assertEqual(len(beats), lengths[other])
                self.assert_leads(one, beats, other, hands)

    def test_one_hand(self):
        # Throws up to the rows of both states together are enough for all bridges between them.
        states = [state for state in naive.states(1, 3, 4) if sum(map(sum, state)) <= 4]
        self.assert_lengths_of_a_walk(states, 1, 6)
        self.assert_lengths_of_a_walk(naive.states(1, 4, 1), 1, 8)

    def test_two_hands(self):
        states = [state for state in naive.states(2, 2, 1) if sum(map(sum, state)) <= 2]
        self.assert_lengths_of_a_walk(states, 2, 4)

    def test_three_hands(self):
        self.assert_lengths_of_a_walk(naive.states(3, 1, 1), 3, 2)


class IntoTest(BridgeChecks):
    def assert_into(self, state, pattern):
        lengths = [
            naive.least_length(state, naive.state_of_past(pattern, index)) for index in range(len(pattern))
        ]
        if lengths[0] is None:
            self.assert_no_bridge(bridge_into, state, pattern)
            return
        found = bridge_into(state, pattern)
        self.assertEqual([type(found), len(found)], [tuple, 2])
        index, beats = found
        self.assertEqual(index, lengths.index(min(lengths)))
        self.assertEqual(len(beats), min(lengths))
        self.assert_leads(state, beats, naive.state_of_past(pattern, index), len(pattern[0]))

    def test_index_and_bridge(self):
        ground = ((1,), (1,), (1,))
        self.assertEqual(bridge_into(ground, one_hand(3)), (0, []))
        self.assertEqual(bridge_into(ground, one_hand(4, 4, 1)), (0, []))
        self.assertEqual(bridge_into(ground, one_hand(4, 1, 4)), (2, []))
        self.assertEqual(bridge_into(ground, one_hand(1, 4, 4)), (1, []))
        self.assertEqual(bridge_into(ground, one_hand(5, 1)), (0, [(((4, 0),),)]))
        self.assertEqual(bridge_into(ground, one_hand(1, 5)), (1, [(((4, 0),),)]))

    def test_least_of_several_indexes(self):
        ground = ((1,), (1,), (1,))
        self.assertEqual(bridge_into(ground, one_hand(3, 3, 3)), (0, []))
        self.assertEqual(bridge_into(ground, one_hand(1, 3, 4, 4)), (1, []))
        self.assertEqual(bridge_into(ground, one_hand(1, 5, 1, 5)), (1, [(((4, 0),),)]))
        self.assertEqual(bridge_into(((1,), (1,)), one_hand(4, 0, 4, 0)), (0, [(((3, 0),),)]))

    def test_without_things(self):
        self.assertEqual(bridge_into((), one_hand(0, 0)), (0, []))
        self.assertEqual(bridge_into((), (((), ()),)), (0, []))
        self.assert_no_bridge(bridge_into, (), one_hand(0, 2))
        self.assert_no_bridge(bridge_into, (), (((), ((1, 1),)),))
        self.assert_no_bridge(bridge_into, ((0, 1),), (((), ()),))

    def test_from_each_state_of_the_patterns(self):
        for pattern, states in RUNNING:
            for other, goals in RUNNING:
                if len(pattern[0]) == len(other[0]):
                    for state in states:
                        self.assert_into(state, other)

    def test_not_even_comes_ahead_of_no_bridge(self):
        for pattern, index, hand in FAILING:
            for state in [(), ((1,) * len(pattern[0]),), ((0,) * len(pattern[0]), (7,) * len(pattern[0]))]:
                self.assert_clash(index, hand, bridge_into, state, pattern)

    def test_other_things_of_heights_of_many_digits(self):
        self.assert_no_bridge(bridge_into, ((1,),), one_hand(HUGE))
        self.assert_no_bridge(bridge_into, (), one_hand(2 * HUGE, 0))
        self.assert_no_bridge(bridge_into, ((1, 1),), (((), ((3, 1), (HUGE, 1))),))

    def test_many_beats(self):
        pattern = one_hand(*[2] * 500, 3, 1, *[2] * 500)
        self.assertEqual(bridge_into(((1,), (0,), (1,)), pattern), (501, []))
        self.assertEqual(bridge_into(((1,), (1,)), pattern), (0, []))

    def test_all_small_patterns_from_small_states(self):
        groups = [
            (naive.patterns(1, 2, 2, 2) + naive.patterns(1, 3, 4, 1), naive.states(1, 3, 2)),
            (naive.patterns(2, 2, 2, 1), naive.states(2, 2, 1)),
        ]
        for patterns, states in groups:
            for pattern in patterns:
                spots = naive.uneven(pattern)
                if spots:
                    self.assert_clash(*spots[0], bridge_into, states[-1], pattern)
                else:
                    for state in states:
                        self.assert_into(state, pattern)


if __name__ == "__main__":
    unittest.main()
