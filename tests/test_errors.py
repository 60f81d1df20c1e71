import unittest

from throwskept.errors import BadText, Clash, NoBridge, NoPlace, NotPlain, ThrowError

PLAIN_ERRORS = [NoBridge, NoPlace, NotPlain, BadText]


class ErrorsTest(unittest.TestCase):
    def test_clash_has_its_fields(self):
        clash = Clash(3, 1)
        self.assertEqual((clash.index, clash.hand), (3, 1))

    def test_all_are_throw_errors_and_value_errors(self):
        self.assertTrue(issubclass(ThrowError, ValueError))
        for kind in [Clash, *PLAIN_ERRORS]:
            self.assertEqual(kind.__bases__, (ThrowError,))

    def test_each_is_caught_by_its_own_name_only(self):
        errors = [Clash(0, 0)] + [kind() for kind in PLAIN_ERRORS]
        for k, error in enumerate(errors):
            for j, kind in enumerate([Clash, *PLAIN_ERRORS]):
                self.assertEqual(isinstance(error, kind), j == k)


if __name__ == "__main__":
    unittest.main()
