"""Point 9: texts."""

import unittest
from itertools import product

from eventours.nettexts import read_net, write_net

from support import BOW, FOUR, SCATTERED, WRONG_NETS, all_nets, full_net, raised

# What Python counts as blank or as the end of a line, but for space and newline.
OTHER_BLANKS = "\t\r\v\f\x1c\x1d\x1e\x1f\x85\xa0\u1680\u2003\u2028\u2029\u202f\u205f\u3000"
# Figures, but not those from 0 to 9: Arabic, Devanagari, wide, superscript, in a ring.
OTHER_FIGURES = "\u0661\u0967\uff11\xb9\u2460"
NOT_HALLS = (
    "0", "10", "12", "03", "3.", "3,", "+3", "-3", "00", "99", "123456789", "three", "x", "_", "halls",
    "ways", "3halls", "01", "'3'",
)
NO_WAYS_OF_THREE = (
    "0", "1", "3", "00", "11", "10", "20", "21", "03", "13", "33", "09", "99", "012", "0102", "01,", "01,02",
    "0-1", "-1", "-01", "+01", "0x", "x1", "xy", "_1", "1_2", "ways", "halls", "(0,1)", "0.", "a0",
)


def bad_line(line, word):
    return "BadLine", {"line": line, "word": word}


class WriteTest(unittest.TestCase):
    def test_example(self):
        self.assertEqual(write_net((4, ((0, 1), (1, 2)))), "halls 4\nways 01 12")

    def test_ordinary_nets(self):
        self.assertEqual(write_net(BOW), "halls 5\nways 01 02 03 04 12 34")
        self.assertEqual(write_net(SCATTERED), "halls 9\nways 04 08 13 48")

    def test_net_without_ways(self):
        for halls in range(1, 10):
            self.assertEqual(write_net((halls, ())), f"halls {halls}\nways")

    def test_bad_net(self):
        for part, value in WRONG_NETS:
            with self.subTest(value=value):
                self.assertEqual(raised(write_net, value), ("BadNet", {"part": part}))


class ReadTest(unittest.TestCase):
    def check(self, text, net):
        found = read_net(text)
        self.assertEqual(found, net, text)
        self.assertIs(type(found), tuple)
        self.assertIs(type(found[1]), tuple)
        self.assertEqual({type(way) for way in found[1]} - {tuple}, set())
        self.assertEqual({type(hall) for way in found[1] for hall in way} - {int}, set())
        self.assertIs(type(found[0]), int)

    def test_example(self):
        self.check("halls 3\nways 02", (3, ((0, 2),)))

    def test_written_and_read_back(self):
        nets = [net for halls in range(1, 5) for net in all_nets(halls)] + all_nets(5)[::17]
        for net in nets + [BOW, SCATTERED] + [full_net(halls) for halls in range(1, 10)]:
            self.check(write_net(net), net)

    def test_spaces(self):
        for text in (
            " halls 3\nways 01 12", "halls 3 \nways 01 12", "halls 3\n ways 01 12", "halls 3\nways 01 12 ",
            "halls  3\nways 01 12", "halls 3\nways  01 12", "halls 3\nways 01    12",
            "   halls   3   \n   ways   01   12   ",
        ):
            self.check(text, (3, ((0, 1), (1, 2))))
        self.check("halls" + " " * 1000 + "2\nways" + " " * 1000, (2, ()))

    def test_void_lines(self):
        for ahead, between, behind in product(("", "\n", "\n\n", "  \n \n"), repeat=3):
            text = f"{ahead}halls 3\n{between}ways 01 12\n{behind}"
            self.check(text, (3, ((0, 1), (1, 2))))
        self.check("\n \n\nhalls 1\n\n   \nways\n\n\n   ", (1, ()))
        self.check("halls 1\nways\n ", (1, ()))

    def test_all_ways(self):
        for y in range(1, 9):
            for x in range(y):
                self.check(f"halls {y + 1}\nways {x}{y}", (y + 1, ((x, y),)))
                self.assertEqual(raised(read_net, f"halls {y}\nways {x}{y}"), bad_line(2, 2))


class ReadErrorsTest(unittest.TestCase):
    def check(self, text, line, word):
        with self.subTest(text=text):
            self.assertEqual(raised(read_net, text), bad_line(line, word))

    def test_example(self):
        self.check("halls 3\nways 20", 2, 2)

    def test_no_string(self):
        for value in (
            0, 3, True, False, None, (), ("halls 3\nways",), [], ["halls 3", "ways"], {}, {"halls": 3},
            (3, ()), (3, ((0, 1),)), ("halls 3", "ways 01"),
        ):
            with self.subTest(value=value):
                self.assertEqual(raised(read_net, value), ("BadText", {}))

    def test_first_word_is_not_halls(self):
        for word in ("x", "hall", "Halls", "HALLS", "hallsx", "xhalls", "halls3", "halls:", "ways", "3", "01"):
            self.check(f"{word} 3\nways 01", 1, 1)
            self.check(word, 1, 1)
            self.check(f"{word}\nways", 1, 1)
            self.check(f"\n \n {word} 3\nways", 3, 1)

    def test_lines_in_the_other_order(self):
        self.check("ways 01\nhalls 3", 1, 1)
        self.check("ways\nhalls", 1, 1)

    def test_no_number_of_halls(self):
        for word in NOT_HALLS + tuple(OTHER_FIGURES):
            self.check(f"halls {word}\nways", 1, 2)
            self.check(f"halls {word}", 1, 2)
            self.check(f"halls {word} x\nways 01", 1, 2)
            self.check(f"\n\n  halls   {word}\nways", 3, 2)

    def test_number_of_halls_lacks(self):
        self.check("halls", 1, 2)
        self.check("halls \nways", 1, 2)
        self.check("halls\nways 01", 1, 2)
        self.check("halls\n3\nways 01", 1, 2)
        self.check("\n\n   halls   \n\nways 01", 3, 2)

    def test_third_word_behind_halls(self):
        for word in ("x", "3", "ways", "halls", "01", "."):
            self.check(f"halls 3 {word}\nways", 1, 3)
            self.check(f"halls 3 {word}", 1, 3)
            self.check(f"halls 3 {word} x y\nways 20", 1, 3)
            self.check(f" \n halls  3   {word}\n\nways", 2, 3)
        self.check("halls 3 ways 01 12", 1, 3)

    def test_first_word_is_not_ways(self):
        for word in ("x", "way", "Ways", "WAYS", "waysx", "xways", "ways01", "ways:", "halls", "01", "3"):
            self.check(f"halls 3\n{word} 01", 2, 1)
            self.check(f"halls 3\n{word}", 2, 1)
            self.check(f"\nhalls 3\n \n\n  {word} 20", 5, 1)
        self.check("halls 3\nhalls 3\nways 01", 2, 1)

    def test_no_way(self):
        for word in NO_WAYS_OF_THREE + tuple("0" + figure for figure in OTHER_FIGURES):
            self.check(f"halls 3\nways {word}", 2, 2)
            self.check(f"halls 3\nways {word} 01 x", 2, 2)
            self.check(f"halls 3\nways 01 {word}", 2, 3)
            self.check(f"halls 3\nways 01 02 {word} 12", 2, 4)
            self.check(f"\nhalls 3\n\n   ways   01   {word}", 4, 3)

    def test_way_of_too_few_halls(self):
        self.check("halls 1\nways 01", 2, 2)
        self.check("halls 1\nways 00", 2, 2)
        self.check("halls 9\nways 09", 2, 2)
        self.check("halls 9\nways 08 89", 2, 3)
        self.check("halls 5\nways 01 02 05 12", 2, 4)

    def test_way_not_behind_the_one_ahead(self):
        self.check("halls 3\nways 01 01", 2, 3)
        self.check("halls 3\nways 02 01", 2, 3)
        self.check("halls 3\nways 01 12 02", 2, 4)
        self.check("halls 3\nways 01 02 12 12", 2, 5)
        self.check("halls 3\nways 12 01 02", 2, 3)
        self.check("halls 4\nways 03 12 02 23", 2, 4)
        self.check("halls 4\nways 01 02 03 12 13 23 01", 2, 8)

    def test_third_line(self):
        for line in ("x", "ways", "ways 12", "halls 3", "12", "  x y"):
            self.check(f"halls 3\nways 01\n{line}", 3, 1)
            self.check(f"halls 3\nways\n{line}\n{line}", 3, 1)
            self.check(f"\nhalls 3\n\nways 01\n\n \n{line}\n", 7, 1)

    def test_line_lacks(self):
        self.check("", 2, 1)
        self.check(" ", 2, 1)
        self.check("\n", 3, 1)
        self.check("  \n \n", 4, 1)
        self.check("halls 3", 2, 1)
        self.check("halls 3 ", 2, 1)
        self.check("halls 3\n", 3, 1)
        self.check("halls 3\n  ", 3, 1)
        self.check("\n\nhalls 3\n \n", 6, 1)

    def test_line_by_line(self):
        self.check("halls 0 x\nwes 01\nx", 1, 2)
        self.check("halls 3 x\nways 20", 1, 3)
        self.check("halls 3\nways 20 x\nmore", 2, 2)
        self.check("halls 3\nwes 20\nmore", 2, 1)
        self.check("x\ny\nz", 1, 1)

    def test_only_spaces_part_words(self):
        for sign in OTHER_BLANKS:
            self.check(f"halls{sign}3\nways 01", 1, 1)
            self.check(f"{sign}halls 3\nways 01", 1, 1)
            self.check(f"halls 3{sign}\nways 01", 1, 2)
            self.check(f"halls 3 {sign}\nways 01", 1, 3)
            self.check(f"halls 3\n{sign}ways 01", 2, 1)
            self.check(f"halls 3\nways{sign}01", 2, 1)
            self.check(f"halls 3\nways 01{sign}02", 2, 2)
            self.check(f"halls 3\nways 01 12{sign}", 2, 3)
            self.check(f"halls 3\nways 01\n{sign}", 3, 1)
            self.check(f"{sign}\nhalls 3\nways 01", 1, 1)

    def test_only_newlines_part_lines(self):
        for sign in OTHER_BLANKS:
            self.check(f"halls 3{sign}ways 01", 1, 2)
            self.check(f"halls 3 {sign}ways 01", 1, 3)
            self.check(f"halls 3 {sign} ways 01", 1, 3)


if __name__ == "__main__":
    unittest.main()
