"""The text of a web: point 10 and huewalks.webtext."""

import unittest

from huewalks.errors import BadText, BadWeb
from huewalks.webs import Web, path_web, ring_web, row_web
from huewalks.webtext import format_web, parse_web
from helpers import NOT_WEBS, ProgramTest, all_small_webs

# Texts of the number 1 that are not the digit 1 alone, and other words that are no numbers.
NOT_NUMBERS = (
    "", "01", "001", "+1", "-1", "-0", "1.0", "1e0", "0x1", "1_0", "1,", "a", "one", "None", "True",
    "\u00b9", "\uff11", "\u0661", "1\u00a0", "1\t", "\t1", "1\r", "1\x0b", "1\x0c", "1\x85", "1\u2028", "\ufeff1",
)

THOUSANDS_OF_DIGITS = ("9" * 5000, "1" + "0" * 6000, "0" * 5000 + "1", "0" * 5000)


class FormatWebTest(ProgramTest):

    def test_the_example(self):
        self.gives("web 3\n0 1\n1 2", format_web, Web(3, [(1, 2), (0, 1), (1, 2)]))

    def test_other_webs(self):
        self.gives("web 0", format_web, Web(0))
        self.gives("web 2000", format_web, web=Web(2000))
        self.gives("web 1\n0 0", format_web, Web(1, [(0, 0)]))
        self.gives("web 12\n2 10\n9 11\n10 2\n11 0", format_web, Web(12, [(10, 2), (9, 11), (2, 10), (11, 0)]))

    def test_what_is_no_web(self):
        for value in NOT_WEBS:
            self.refused(BadWeb(None), format_web, value)


class ParseWebTest(ProgramTest):

    def wrong_line(self, line_number, text):
        self.refused(BadText(line_number), parse_web, text)

    def test_texts_of_webs(self):
        self.gives(Web(3, [(0, 1), (1, 2)]), parse_web, "web 3\n0 1\n1 2")
        self.gives(Web(0), parse_web, text="web 0")
        self.gives(Web(2000), parse_web, "web 2000")
        self.gives(Web(1, [(0, 0)]), parse_web, "web 1\n0 0")

    def test_there_and_back(self):
        webs = all_small_webs(3) + [row_web(63), path_web(2000), ring_web(2000), Web(2000, [(1999, 1999)])]
        for web in webs:
            self.assertEqual(parse_web(format_web(web)), web)

    def test_what_is_no_string(self):
        for value in (None, True, 0, 5, [], ["web 3"], ("web 3",), {}, Web(3)):
            self.wrong_line(0, value)

    def test_wrong_first_lines(self):
        for text in ("", "\n", "web", "web ", " web 3", "web 3 ", "web  3", "web 3 4", "Web 3", "webs 3", "3",
                     "web3", "3 web", "web\t3", "web 3\r", "web 3\r\n0 1", "\tweb 3", "0 1", "\nweb 3", "web\n3"):
            self.wrong_line(1, text)
        for word in NOT_NUMBERS + THOUSANDS_OF_DIGITS + ("2001", "9999", "10000", "20000", "02000"):
            self.wrong_line(1, "web " + word)
            self.wrong_line(1, "web " + word + "\n0 0\nx")

    def test_wrong_arrows(self):
        for line in ("", " ", "0", "0 ", " 0 1", "0 1 ", "0  1", "0 1 2", "0,1", "0\t1", "arrow 0 1", "web 3", "a b"):
            self.wrong_line(2, "web 3\n" + line)
            self.wrong_line(3, "web 3\n0 0\n" + line + "\nx")
        for word in NOT_NUMBERS + THOUSANDS_OF_DIGITS + ("3", "4", "10", "2000"):
            self.wrong_line(2, "web 3\n" + word + " 1")
            self.wrong_line(3, "web 3\n0 0\n1 " + word + "\n0 0")

    def test_an_arrow_of_a_web_without_places(self):
        self.wrong_line(2, "web 0\n0 0")
        self.wrong_line(2, "web 1\n0 1")
        self.wrong_line(2, "web 1\n1 0")

    def test_only_a_newline_ends_a_line(self):
        for end in ("\r", "\x0b", "\x0c", "\x1c", "\x85", "\u2028"):
            self.wrong_line(1, "web 3" + end + "0 1")
            self.wrong_line(2, "web 3\n0 1" + end + "1 2")

    def test_a_newline_at_the_end_makes_an_empty_line(self):
        self.wrong_line(2, "web 0\n")
        self.wrong_line(2, "web 3\n")
        self.wrong_line(3, "web 3\n0 1\n")
        self.wrong_line(2, "web 3\n\n0 1")

    def test_the_pairs_ascend(self):
        self.wrong_line(3, "web 3\n0 1\n0 1")
        self.wrong_line(3, "web 3\n1 0\n0 1\n1 2")
        self.wrong_line(4, "web 3\n0 1\n1 2\n1 1")
        self.wrong_line(3, "web 12\n0 10\n0 9")
        self.wrong_line(3, "web 12\n10 0\n9 0")
        self.gives(Web(12, [(0, 9), (0, 10), (9, 0), (10, 0)]), parse_web, "web 12\n0 9\n0 10\n9 0\n10 0")

    def test_the_first_wrong_line_counts(self):
        self.wrong_line(1, "web 2001\n0 1\n0 1")
        self.wrong_line(3, "web 3\n0 1\n0 3\n0 0\n")
        self.wrong_line(4, "web 3\n0 0\n0 1\n0 1\n5 5")

    def test_2000_and_2001_arrows(self):
        lines = ["web 50"] + [f"{u} {v}" for u in range(50) for v in range(50)]
        self.assertEqual(len(parse_web("\n".join(lines[:2001])).arrows), 2000)
        self.wrong_line(2002, "\n".join(lines[:2002]))
        self.wrong_line(2002, "\n".join(lines))
        self.wrong_line(2002, "\n".join(lines[:2001]) + "\n")
        self.wrong_line(2000, "\n".join(lines[:1999] + ["0 0"] + lines[2000:]))

    def test_longest_numbers(self):
        self.gives(Web(2000, [(0, 1999), (1000, 0), (1999, 1999)]), parse_web, "web 2000\n0 1999\n1000 0\n1999 1999")
        self.wrong_line(2, "web 2000\n0 2000")
        self.wrong_line(2, "web 2000\n2000 0")
        self.wrong_line(2, "web 2000\n0 01999")


if __name__ == "__main__":
    unittest.main()
