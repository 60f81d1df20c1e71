import unittest

from test_plain import PLAIN
from throwskept.errors import BadText, Clash, NoBridge, NoPlace, NotPlain, ThrowError
from throwskept.texts import read_heights, write_heights

ALL = "0123456789abcdefghijklmnopqrstuvwxyz"

# (heights, their text)
TEXTS = [
    ((0,), "0"),
    ((9,), "9"),
    ((10,), "a"),
    ((35,), "z"),
    ((5, 3, 1), "531"),
    ((9, 7, 5, 3, 1), "97531"),
    ((11, 0, 1), "b01"),
    ((0, 0, 0), "000"),
    ((10, 35, 34, 16), "azyg"),
    ((4, 3), "43"),
]

BAD_TEXTS = [
    "",
    " ",
    "A",
    "Z",
    "5A1",
    "53 1",
    " 531",
    "531 ",
    "531\n",
    "-1",
    "+1",
    "5,3,1",
    "5.1",
    "5_1",
    "(531)",
    "5\t1",
    "531\x00",
    "\u0665\u0663\u0661",
    "\u00b2",
    "\uff15",
    "\u00e4",
    "\u03b1",
    "\u00df",
    "\ud800",
]


class TextsTest(unittest.TestCase):
    def assert_bad_text(self, text):
        with self.assertRaises(BadText) as caught:
            read_heights(text)
        self.assertIsInstance(caught.exception, ThrowError)
        self.assertIsInstance(caught.exception, ValueError)
        self.assertNotIsInstance(caught.exception, (Clash, NoBridge, NoPlace, NotPlain))

    def test_written_and_read(self):
        for heights, text in TEXTS:
            self.assertEqual(write_heights(heights), text)
            self.assertEqual(read_heights(text), heights)

    def test_all_characters(self):
        self.assertEqual(write_heights(tuple(range(36))), ALL)
        self.assertEqual(read_heights(ALL), tuple(range(36)))
        for height, sign in enumerate(ALL):
            self.assertEqual(write_heights((height,)), sign)
            self.assertEqual(read_heights(sign), (height,))

    def test_kinds(self):
        self.assertIs(type(write_heights((5, 3, 1))), str)
        self.assertIs(type(read_heights("531")), tuple)
        self.assertEqual([type(height) for height in read_heights("5a")], [int, int])

    def test_heights_need_not_be_plain(self):
        self.assertEqual(write_heights((4, 3)), "43")
        self.assertEqual(read_heights("43"), (4, 3))

    def test_there_and_back(self):
        for heights, _ in PLAIN:
            if max(heights) <= 35:
                self.assertEqual(read_heights(write_heights(heights)), heights)
        heights = tuple(k * k % 36 for k in range(5000))
        self.assertEqual(read_heights(write_heights(heights)), heights)

    def test_bad_texts(self):
        for text in BAD_TEXTS:
            self.assert_bad_text(text)

    def test_every_other_character_anywhere(self):
        for code in range(0x250):
            if chr(code) not in ALL:
                for text in [chr(code), chr(code) + "5", "5" + chr(code), "5" + chr(code) + "1"]:
                    self.assert_bad_text(text)

    def test_heights_beyond_the_characters_raise_no_error(self):
        for heights in [(36,), (5, 36, 1), (100, 0), (10 ** 60,)]:
            text = write_heights(heights)
            self.assertIs(type(text), str)
            self.assertEqual(len(text), len(heights))
            self.assertTrue(all(" " <= sign <= "~" and sign != "%" for sign in text))
            self.assert_bad_text(text)


if __name__ == "__main__":
    unittest.main()
