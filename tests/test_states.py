import unittest

import naive
from naive import one_hand
from throwskept.errors import BadText, Clash, NoBridge, NoPlace, NotPlain, ThrowError
from throwskept.states import after, run, start_of, state_at, thing_count

HUGE = 10 ** 60


class ClashChecks(unittest.TestCase):
    def assert_clash(self, index, hand, function, *arguments):
        with self.assertRaises(Clash) as caught:
            function(*arguments)
        error = caught.exception
        self.assertEqual((error.index, error.hand), (index, hand))
        self.assertIsInstance(error, ThrowError)
        self.assertIsInstance(error, ValueError)
        self.assertNotIsInstance(error, (NoBridge, NoPlace, NotPlain, BadText))


class ThingCountTest(unittest.TestCase):
    def test_counts(self):
        self.assertEqual(thing_count(()), 0)
        self.assertEqual(thing_count(((1,),)), 1)
        self.assertEqual(thing_count(((0,), (0,), (3,))), 3)
        self.assertEqual(thing_count(((1, 0, 2), (0, 0, 0), (0, 4, 1))), 8)

    def test_many_digits(self):
        self.assertEqual(thing_count(((HUGE, 1), (0, HUGE))), 2 * HUGE + 1)


class AfterTest(ClashChecks):
    def test_one_hand(self):
        self.assertEqual(after(((1,),), (((1, 0),),)), ((1,),))
        self.assertEqual(after(((1,),), (((3, 0),),)), ((0,), (0,), (1,)))
        self.assertEqual(after(((1,), (1,)), (((1, 0),),)), ((2,),))
        self.assertEqual(after(((0,), (1,)), ((),)), ((1,),))
        self.assertEqual(after(((0,), (0,), (0,), (2,)), ((),)), ((0,), (0,), (2,)))

    def test_several_hands(self):
        self.assertEqual(after(((1, 0), (0, 1)), (((2, 1),), ())), ((0, 1), (0, 1)))
        self.assertEqual(after(((0, 1), (1, 0)), ((), ((1, 0),))), ((2, 0),))
        self.assertEqual(
            after(((1, 2, 0),), (((4, 2),), ((1, 0), (2, 1)), ())),
            ((1, 0, 0), (0, 1, 0), (0, 0, 0), (0, 0, 1)),
        )

    def test_same_throw_several_times(self):
        self.assertEqual(after(((3,),), (((2, 0), (2, 0), (2, 0)),)), ((0,), (3,)))
        self.assertEqual(after(((2, 1),), (((1, 1), (1, 1)), ((1, 1),))), ((0, 3),))

    def test_empty_state(self):
        self.assertEqual(after((), ((),)), ())
        self.assertEqual(after((), ((), (), ())), ())

    def test_numbers_of_many_digits(self):
        self.assertEqual(after(((1,), (HUGE,)), (((1, 0),),)), ((HUGE + 1,),))
        self.assert_clash(0, 0, after, ((HUGE,),), (((1, 0),),))

    def test_one_throw_too_many_or_too_few(self):
        self.assert_clash(0, 0, after, ((1,),), ((),))
        self.assert_clash(0, 0, after, ((1,),), (((1, 0), (1, 0)),))
        self.assert_clash(0, 0, after, ((0,), (1,)), (((1, 0),),))
        self.assert_clash(0, 0, after, (), (((1, 0),),))

    def test_least_hand_of_several(self):
        self.assert_clash(0, 1, after, ((1, 1, 1),), (((1, 0),), (), ()))
        self.assert_clash(0, 2, after, ((0, 1, 0),), ((), ((1, 0),), ((1, 0),)))
        self.assert_clash(0, 1, after, (), ((), ((1, 0),)))
        self.assert_clash(0, 0, after, ((0, 1),), (((1, 0),), ()))

    def test_clash_before_a_throw_of_many_digits_takes_room(self):
        self.assert_clash(0, 1, after, ((1, 1),), (((HUGE, 0),), ()))

    def test_all_small_beats_in_all_small_states(self):
        for hands, highest, most in [(1, 3, 2), (2, 2, 2)]:
            for state in naive.states(hands, 2, 2):
                for beat in naive.beats(hands, highest, most):
                    expected, hand = naive.throw(state, beat)
                    if hand is None:
                        self.assertEqual(after(state, beat), expected)
                    else:
                        self.assert_clash(0, hand, after, state, beat)


class RunTest(ClashChecks):
    def test_without_beats(self):
        for state in [(), ((1,),), ((0, 2), (1, 0))]:
            self.assertEqual(run(state, []), state)

    def test_beats_one_after_another(self):
        beats = list(one_hand(5, 3, 1))
        start = ((1,), (1,), (1,))
        self.assertEqual(run(start, beats[:1]), ((1,), (1,), (0,), (0,), (1,)))
        self.assertEqual(run(start, beats[:2]), ((1,), (0,), (1,), (1,)))
        self.assertEqual(run(start, beats), start)
        self.assertEqual(run(start, beats * 100), start)
        crossing = [(((3, 1),), ()), ((), ((3, 0),))]
        self.assertEqual(run(((1, 0), (0, 1), (1, 0)), crossing[:1]), ((0, 1), (1, 0), (0, 1)))
        self.assertEqual(run(((1, 0), (0, 1), (1, 0)), crossing), ((1, 0), (0, 1), (1, 0)))

    def test_empty_state_and_waiting(self):
        self.assertEqual(run((), [((),), ((),)]), ())
        self.assertEqual(run(((0,), (0,), (1,)), [((),), ((),)]), ((1,),))
        self.assertEqual(run(((0, 0), (0, 1)), [((), ()), ((), ((2, 0),)), ((), ())]), ((1, 0),))

    def test_last_row_is_never_all_zeros(self):
        for beats in [one_hand(0, 4, 0, 0), one_hand(0, 4, 0, 0, 0, 1), one_hand(0, 1, 1, 1)]:
            for count in range(len(beats) + 1):
                state = run(((0,), (1,)), list(beats[:count]))
                self.assertTrue(any(state[-1]))

    def test_first_clash_and_least_hand(self):
        self.assert_clash(0, 0, run, ((1,),), [((),), (((1, 0),),)])
        self.assert_clash(1, 0, run, ((1,),), [(((2, 0),),), (((1, 0),),), ((),)])
        self.assert_clash(2, 0, run, ((1,),), list(one_hand(2, 0, 0)))
        self.assert_clash(1, 1, run, ((1, 0), (0, 2)), [(((2, 0),), ()), ((), ((1, 0),)), ((), ())])
        self.assert_clash(1, 0, run, ((1, 0),), [(((1, 1),), ()), (((1, 0),), ())])
        self.assert_clash(1, 1, run, (), [((), ()), ((), ((1, 1),)), (((1, 1),), ())])

    def test_clash_behind_a_throw_of_many_digits(self):
        self.assert_clash(1, 0, run, ((1,),), [(((HUGE, 0),),), (((1, 0),),)])

    def test_a_high_throw_comes_down(self):
        height = 10 ** 4
        beats = [(((height, 0),),)] + [((),)] * (height - 1)
        self.assertEqual(run(((1,),), beats), ((1,),))
        self.assertEqual(run(((1,),), beats[:-3]), ((0,), (0,), (0,), (1,)))

    def test_arguments_and_answers_stay_apart(self):
        beats = [(((2, 0),),), ((),)]
        state = run(((1,),), beats)
        self.assertEqual(beats, [(((2, 0),),), ((),)])
        beats.append(5)
        self.assertEqual(state, ((1,),))
        failing = [(((2, 0),),), (((2, 0),),)]
        self.assert_clash(1, 0, run, ((1,),), failing)
        self.assertEqual(failing, [(((2, 0),),), (((2, 0),),)])

    def test_answers_are_tuples_of_tuples(self):
        state = run(((1, 0),), [(((2, 1),), ())])
        self.assertIs(type(state), tuple)
        self.assertEqual([type(row) for row in state], [tuple, tuple])
        self.assertEqual([type(number) for row in state for number in row], [int] * 4)

    def test_all_small_lists_of_beats(self):
        for state in naive.states(1, 2, 2):
            for beats in naive.patterns(1, 2, 2, 2) + naive.patterns(1, 3, 2, 1):
                self.assert_runs_as_told(state, list(beats))
        for state in naive.states(2, 1, 1):
            for beats in naive.patterns(2, 2, 2, 1):
                self.assert_runs_as_told(state, list(beats))

    def assert_runs_as_told(self, state, beats):
        expected, spot = naive.throw_all(state, beats)
        if spot is None:
            self.assertEqual(run(state, beats), expected)
        else:
            self.assert_clash(*spot, run, state, beats)


# (pattern, its state at each index)
RUNNING = [
    (one_hand(0), [()]),
    (one_hand(0, 0), [(), ()]),
    ((((), ()),), [()]),
    (one_hand(1), [((1,),)]),
    (one_hand(3), [((1,), (1,), (1,))]),
    (one_hand(2, 0), [((1,),), ((0,), (1,))]),
    (one_hand(0, 2), [((0,), (1,)), ((1,),)]),
    (one_hand(4, 4, 1), [((1,), (1,), (1,)), ((1,), (1,), (0,), (1,)), ((1,), (0,), (1,), (1,))]),
    (one_hand(5, 1), [((1,), (1,), (0,), (1,)), ((1,), (0,), (1,), (0,), (1,))]),
    (
        one_hand(8, 0),
        [
            ((1,), (0,), (1,), (0,), (1,), (0,), (1,)),
            ((0,), (1,), (0,), (1,), (0,), (1,), (0,), (1,)),
        ],
    ),
    (((((1, 0), (1, 0), (2, 0)),),), [((3,), (1,))]),
    (((((3, 0), (3, 0)),),), [((2,), (2,), (2,))]),
    (((((2, 1),), ((2, 0),)),), [((1, 1), (1, 1))]),
    (((((1, 0),), ((3, 1),)),), [((1, 1), (0, 1), (0, 1))]),
    (
        ((((3, 1),), ()), ((), ((3, 0),))),
        [((1, 0), (0, 1), (1, 0)), ((0, 1), (1, 0), (0, 1))],
    ),
    (
        (((), ((1, 2), (3, 2)), ()), ((), (), ((1, 1), (3, 1)))),
        [((0, 2, 0), (0, 0, 1), (0, 1, 0)), ((0, 0, 2), (0, 1, 0), (0, 0, 1))],
    ),
]

# (pattern, the least index and the least hand there at which it is not even)
FAILING = [
    (one_hand(4, 3), 0, 0),
    (one_hand(1, 0), 0, 0),
    (one_hand(1, 1, 0), 0, 0),
    (one_hand(3, 1, 2, 0), 1, 0),
    (one_hand(3, 3, 1, 3), 1, 0),
    (one_hand(5, 5, 5, 1, 5), 3, 0),
    (one_hand(HUGE + 1, HUGE), 0, 0),
    (one_hand(3 * HUGE, 1, 3), 1, 0),
    (((((1, 1),), ()),), 0, 0),
    (((((1, 0),), ((1, 2),), ()),), 0, 1),
    (((((HUGE, 0),), ((HUGE, 0),)),), 0, 0),
    ((((), ()), (((1, 1),), ())), 0, 1),
    ((((), ()), (((2, 1),), ((2, 1),))), 1, 0),
    ((((), (), ()), ((), ((2, 2),), ())), 1, 1),
]


class StartTest(ClashChecks):
    def test_starts_and_states(self):
        for pattern, states in RUNNING:
            self.assertEqual(start_of(pattern), states[0])
            for index, state in enumerate(states):
                self.assertEqual(state_at(pattern, index), state)

    def test_the_beats_lead_back_to_the_start(self):
        for pattern, _ in RUNNING:
            start = start_of(pattern)
            self.assertEqual(naive.throw_all(start, pattern), (start, None))
            self.assertEqual(run(start, list(pattern)), start)

    def test_things_of_the_start(self):
        for pattern, _ in RUNNING:
            heights = [height for beat in pattern for throws in beat for height, _ in throws]
            self.assertEqual(thing_count(start_of(pattern)) * len(pattern), sum(heights))

    def test_not_even(self):
        for pattern, index, hand in FAILING:
            self.assert_clash(index, hand, start_of, pattern)
            for at in range(len(pattern)):
                self.assert_clash(index, hand, state_at, pattern, at)

    def test_a_high_throw_and_many_beats(self):
        start = start_of(one_hand(10 ** 5))
        self.assertEqual(start, ((1,),) * 10 ** 5)
        pattern = one_hand(*[3] * 2000)
        self.assertEqual(state_at(pattern, 1999), ((1,), (1,), (1,)))

    def test_many_throws_of_one_hand(self):
        pattern = ((tuple((height, 0) for height in range(1, 2001)),),)
        self.assertEqual(start_of(pattern), tuple((2000 - k,) for k in range(2000)))

    def test_answers_are_tuples_of_tuples(self):
        start = start_of(one_hand(5, 1))
        self.assertIs(type(start), tuple)
        self.assertEqual([type(row) for row in start], [tuple] * 4)

    def test_all_small_patterns(self):
        for pattern in naive.SMALL_PATTERNS:
            spots = naive.uneven(pattern)
            if spots:
                self.assert_clash(*spots[0], start_of, pattern)
                self.assert_clash(*spots[0], state_at, pattern, len(pattern) - 1)
            else:
                for index in range(len(pattern)):
                    self.assertEqual(state_at(pattern, index), naive.state_of_past(pattern, index))
                self.assertEqual(start_of(pattern), naive.state_of_past(pattern, 0))


if __name__ == "__main__":
    unittest.main()
