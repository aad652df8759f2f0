"""The texts of papers and cases: points 2 to 6, 10 and 47, and huewalks.papertext."""

import unittest

from huewalks.cases import hue_refusal
from huewalks.closedlots import tower
from huewalks.errors import BadBounds, BadNumber, BadPaper, BadText, BadWeb, TooMany
from huewalks.lay import refusal
from huewalks.papers import decide, is_answer
from huewalks.papertext import format_case, format_paper, judge_text, parse_case, parse_paper
from huewalks.webs import Web, path_web, ring_web, row_web
from huewalks.webtext import format_web
from helpers import (
    CLASH, NOT_PAPERS, NOT_SPANS, NOT_WEBS, ROAD, TOWERS_OF_MORE, WELL_FORMED, WRONG_BOUNDS, ProgramTest, as_lists,
    dense_web, hub_web, nested_tree, shown,
)

MANY_DIGITS = "9" * 6000

# Papers in the returned form, each with its text.
TEXTS = (
    (("hueing", []), "hueing"),
    (("hueing", [0, 10, 9999]), "hueing 0 10 9999"),
    (("laying", [5]), "laying 5"),
    (("laying", []), "laying"),
    (("row", [3, 1, 2]), "row 3 1 2"),
    (("row", []), "row"),
    (("loop", 0), "loop 0"),
    (("loop", 9999), "loop 9999"),
    (("ties", ([0, 1, 2], [[0, 1], [2, 3]])), "ties 0 1 2 / 0 1 / 2 3"),
    (("ties", ([], [])), "ties"),
    (("ties", ([], [[]])), "ties /"),
    (("ties", ([7], [])), "ties 7"),
    (("ties", ([7], [[], [4], []])), "ties 7 / / 4 /"),
    (("cases", ("clash", 0, 1)), "cases c 0 1"),
    (("cases", ("split", 0, (("clash", 0, 0), ("clash", 0, 0)))), "cases s 0 2 c 0 0 c 0 0"),
    (("cases", ("split", 9999, ())), "cases s 9999 0"),
    (("cases", ("split", 1, (("split", 2, ()), ("split", 3, (("clash", 4, 5),)), ("clash", 6, 7)))),
     "cases s 1 3 s 2 0 s 3 1 c 4 5 c 6 7"),
    (("hues", ("road", 3, ())), "hues r 3 0"),
    (("hues", ("road", 0, (5, 6, 7))), "hues r 0 3 5 6 7"),
    (("hues", ("hue", (), ())), "hues h 0 0"),
    (("hues", ("hue", (1, 2), (("road", 0, (1, 2)), ("hue", (3,), ()), ("road", 1, (8, 9))))),
     "hues h 2 1 2 3 r 0 2 1 2 h 1 3 0 r 1 2 8 9"),
)

NOT_TEXTS = (None, True, 0, 3, [], ["loop 0"], ("loop 0",), {}, {"loop": 0}, Web(1), ["span 2", "bounds 1"])

# Texts of no paper.
WRONG_TEXTS = (
    "", " ", "\n", "loop", "loop ", "loop  0", "loop 0 ", " loop 0", "loop 0\n", "loop\t0", "loop 00", "loop 01", "loop +1",
    "loop -1", "loop 10000", "loop 0 0", "loop x", "loop 1.0", "Loop 0", "LOOP 0", "loops 0", "loop " + MANY_DIGITS,
    "hueing ", "hueing  0", "hueing 0  0", "hueing 0 ", "hueing 00", "hueing 10000", "hueing a", "hueing 0,1", "hueing\n0",
    "hueing 0\n", "hueing 0\r", "laying -1", "laying 0 /", "row 0 1 2 " + MANY_DIGITS, "row 1_0", "row \u0663", "row 0\u00a00",
    "ties ", "ties / ", "ties  /", "ties //", "ties 0/1", "ties / 0 / x", "ties / 0 /  1", "ties / 12345", "ties -", "ties \\",
    "cases", "cases ", "cases c", "cases c 0", "cases c 0 0 0", "cases c 0 0 c 0 0", "cases c 0 x", "cases c 0 00",
    "cases s", "cases s 0", "cases s 0 1", "cases s 0 0 0", "cases s 0 2 c 0 0", "cases s 0 1 c 0 0 c 0 0", "cases s 0 1 c 0",
    "cases r 0 0", "cases h 0 0", "cases s 0 1 r 0 0", "cases s 0 1 s 0 1", "cases d 0 0", "cases 0 0 0", "cases C 0 0",
    "cases s 0 201" + " c 0 0" * 201, "cases s 0 10000", "cases s 10000 0", "cases clash 0 0", "cases s 0 " + MANY_DIGITS,
    "hues", "hues r", "hues r 0", "hues r 0 1", "hues r 0 2 1", "hues r 0 1 1 1", "hues r 0 0 r 0 0", "hues h", "hues h 0",
    "hues h 1", "hues h 1 5", "hues h 1 5 1", "hues h 0 1 r 0", "hues h 0 0 0", "hues c 0 0", "hues h 0 1 c 0 0", "hues s 0 0",
    "hues h 0 201" + " r 0 0" * 201, "hues r 0 10000", "hues h 10000", "hues r x 0", "hues h x 0", "hues h 0 x", "hues h 1 x 0",
    "hueing 0\nhueing 0", "web 0", "span 2", "nothing", "hueinglaying", "cases\nc 0 0",
)


class PaperTextTest(ProgramTest):

    def test_the_examples(self):
        self.gives("cases s 0 2 c 0 0 c 0 0", format_paper, ("cases", ("split", 0, (("clash", 0, 0), ("clash", 0, 0)))))
        self.gives(("ties", ([0, 1, 2], [[0, 1], [2, 3]])), parse_paper, "ties 0 1 2 / 0 1 / 2 3")

    def test_texts(self):
        for paper, text in TEXTS:
            self.gives(text, format_paper, paper)
            self.gives(text, format_paper, paper=as_lists(paper))
            self.gives(paper, parse_paper, text)
        self.gives(("loop", 0), parse_paper, text="loop 0")
        for paper in WELL_FORMED:
            self.gives(format_paper(paper), format_paper, parse_paper(format_paper(paper)))

    def test_papers_that_the_program_returns(self):
        for web, span, bounds in ((row_web(4), 3, [2]), (row_web(5), 2, [2, 2]), (row_web(4), 3, [2, 2]), (Web(0), 2, [1])):
            paper = decide(web, span, bounds)
            self.gives(paper, parse_paper, format_paper(paper))
        tree = hue_refusal(row_web(5), 2, [2, 2])
        self.gives(("hues", tree), parse_paper, format_paper(("hues", tree)))
        tree = refusal(Web(13, [(12, 12)]), tower(2, [2]))
        self.gives(("cases", tree), parse_paper, format_paper(("cases", tree)))

    def test_spoilt_texts(self):
        for text in WRONG_TEXTS:
            self.refused(BadText(1), parse_paper, text)
        for _, text in TEXTS:
            words = text.split(" ")
            for i in range(len(words)):
                for bad in ("", "x", "-1", "+1", "00", "10000", "1.", MANY_DIGITS, "\t", words[i] + "\n", "\n" + words[i]):
                    self.refused(BadText(1), parse_paper, " ".join(words[:i] + [bad] + words[i + 1:]))
                self.refused(BadText(1), parse_paper, " ".join(words[:i] + ["", words[i]] + words[i + 1:]))
            self.refused(BadText(1), parse_paper, text + " ")
            self.refused(BadText(1), parse_paper, " " + text)
            self.refused(BadText(1), parse_paper, text + "\n")

    def test_a_word_more_or_less_in_a_tree(self):
        for paper, text in TEXTS:
            if paper[0] in ("cases", "hues"):
                words = text.split(" ")
                for i in range(len(words)):
                    self.refused(BadText(1), parse_paper, " ".join(words[:i]))
                self.refused(BadText(1), parse_paper, text + " 0")

    def test_no_strings(self):
        for text in NOT_TEXTS:
            self.refused(BadText(0), parse_paper, text)
            self.refused(BadText(0), parse_case, text)
            self.refused(BadText(0), judge_text, text)

    def test_trees_at_their_limits(self):
        for paper in (
            ("cases", nested_tree("split", 9999, 13)), ("hues", nested_tree("hue", (9999,), 10)),
            ("cases", ("split", 0, (CLASH,) * 200)), ("hues", ("hue", (), (ROAD,) * 200)),
            ("hues", ("road", 0, (9999,) * 9999)), ("hues", ("hue", (0,) * 9999, ())),
        ):
            self.gives(paper, parse_paper, format_paper(paper))
        self.refused(BadText(1), parse_paper, "cases" + " s 0 1" * 13 + " s 0 0")
        self.gives(("cases", nested_tree("split", 0, 13)), parse_paper, "cases" + " s 0 1" * 12 + " s 0 0")
        self.refused(BadText(1), parse_paper, "cases" + " s 0 1" * 30000 + " s 0 0")
        self.refused(BadText(1), parse_paper, "hues" + " h 0 1" * 10 + " h 0 0")
        self.gives(("hues", nested_tree("hue", (), 10)), parse_paper, "hues" + " h 0 1" * 9 + " h 0 0")
        self.refused(BadText(1), parse_paper, "hues" + " h 0 1" * 30000 + " h 0 0")

    def test_20000_trees_and_one_more(self):
        full = " s 0 99" + " c 0 0" * 99
        most = "cases s 0 200" + full * 199
        paper = parse_paper(most + " s 0 98" + " c 0 0" * 98)
        self.assertEqual(format_paper(paper), most + " s 0 98" + " c 0 0" * 98)
        self.refused(BadText(1), parse_paper, most + full)
        full = " h 0 99" + " r 0 0" * 99
        most = "hues h 0 200" + full * 199
        paper = parse_paper(most + " h 0 98" + " r 0 0" * 98)
        self.assertEqual(format_paper(paper), most + " h 0 98" + " r 0 0" * 98)
        self.refused(BadText(1), parse_paper, most + full)

    def test_long_papers(self):
        self.gives(("hueing", [7] * 20000), parse_paper, "hueing" + " 7" * 20000)
        self.gives("row" + " 7" * 20000, format_paper, ("row", [7] * 20000))
        self.gives(("ties", ([], [[]] * 20000)), parse_paper, "ties" + " /" * 20000)

    def test_what_is_not_well_formed(self):
        for paper in NOT_PAPERS:
            self.refused(BadPaper(None), format_paper, paper)
            self.refused(BadPaper(None), format_case, Web(0), 2, [1], paper)


class CaseTextTest(ProgramTest):

    def test_ordinary_cases(self):
        for web, span, bounds, paper in (
            (Web(0), 2, (1,), ("hueing", [])), (row_web(4), 3, (2,), decide(row_web(4), 3, [2])),
            (ring_web(1), 6, (200,) * 8, ("loop", 0)), (Web(2000), 4, (1, 2, 3), ("row", [9999])),
            (path_web(2000), 5, (7,), ("ties", ([0], [[], [1]]))), (row_web(3), 2, (2, 2), ("hues", ("hue", (1,), ()))),
        ):
            text = "\n".join([
                f"span {span}", "bounds " + " ".join([str(bound) for bound in bounds]), format_web(web), format_paper(paper)
            ])
            self.gives(text, format_case, web, span, bounds, paper)
            self.gives(text, format_case, paper=as_lists(paper), bounds=list(bounds), span=span, web=web)
            self.gives((web, span, bounds, paper), parse_case, text)
        text = "span 2\nbounds 2 1\nweb 2\n0 1\nhueing 0"
        self.gives((Web(2, [(0, 1)]), 2, (2, 1), ("hueing", [0])), parse_case, text=text)
        self.gives(True, judge_text, text=text)
        self.gives(False, judge_text, "span 2\nbounds 2 1\nweb 2\n0 1\nhueing 1")

    def test_they_ask_no_limit_of_walks_or_of_the_tower(self):
        for span, bounds in TOWERS_OF_MORE:
            text = format_case(hub_web(69, 29), span, bounds, ("loop", 0))
            self.gives((hub_web(69, 29), span, tuple(bounds), ("loop", 0)), parse_case, text)

    def test_fewer_than_four_lines(self):
        self.refused(BadText(1), parse_case, "")
        self.refused(BadText(2), parse_case, "span 2")
        self.refused(BadText(3), parse_case, "span 2\nbounds 1")
        self.refused(BadText(4), parse_case, "span 2\nbounds 1\nweb 1")
        # All of these lines are read as the first lines of a case, and none as a paper.
        self.refused(BadText(1), parse_case, "hueing")
        self.refused(BadText(2), parse_case, "span 2\n")
        self.refused(BadText(2), parse_case, "span 2\nhueing")
        self.refused(BadText(3), parse_case, "span 2\nbounds 1\n")
        self.refused(BadText(3), parse_case, "span 2\nbounds 1\nhueing")
        self.refused(BadText(1), parse_case, "span 1\nbounds 0\nhueing")
        self.refused(BadText(4), parse_case, "span 2\nbounds 1\nweb 1\n")
        self.gives((Web(1), 2, (1,), ("hueing", [])), parse_case, "span 2\nbounds 1\nweb 1\nhueing")

    def check_line(self, lines, number, wrong):
        """The text with this wrong line is refused, whatever stands in later lines."""
        for later in (lines[number:], ["nonsense"] * 3):
            # The last line of a case has none behind it.
            text = "\n".join(lines[:number - 1] + [wrong] + (later if number < len(lines) else []))
            for call in (parse_case, judge_text):
                self.refused(BadText(number), call, text)

    def test_a_wrong_line_at_each_place(self):
        lines = ["span 3", "bounds 2 2", "web 3", "0 1", "0 2", "1 2", "hueing 0"]
        self.gives(True, judge_text, "\n".join(lines))
        for wrong in (
            "", "span", "span ", "span  3", " span 3", "span 3 ", "span 1", "span 7", "span 03", "span +3", "span three",
            "span 3 3", "Span 3", "spans 3", "bounds 3", "span\t3", "span " + MANY_DIGITS, "span 3\r", "3",
        ):
            self.check_line(lines, 1, wrong)
        for wrong in (
            "", "bounds", "bounds ", "bounds 0", "bounds 201", "bounds 2  2", "bounds 2 2 ", " bounds 2", "bounds 02",
            "bounds -1", "bounds 1 1 1 1 1 1 1 1 1", "bound 2", "span 2", "bounds 2,2", "bounds 2 " + MANY_DIGITS,
            "bounds 2 1000", "bounds 2\t2", "bounds 2 0 2", "2 2", "bounds x",
        ):
            self.check_line(lines, 2, wrong)
        for wrong in ("", "web", "web 2001", "web 03", "web -1", "web 3 3", "Web 3", "0 1", "web  3", "web " + MANY_DIGITS):
            self.check_line(lines, 3, wrong)
        for number in (4, 5, 6):
            for wrong in ("", "0 3", "3 0", "0", "0 1 2", "x 1", "00 1", "0  1", "1 " + MANY_DIGITS, "hueing 0", "0 0 "):
                self.check_line(lines, number, wrong)
        self.check_line(lines, 5, "0 1")
        self.check_line(lines, 6, "0 2")
        self.check_line(lines, 6, "0 1")
        for wrong in ("", "0 1", "2 2", "hueing  0", "hueing 0 ", "nothing", "hueing 10000", "loop", "hueing " + MANY_DIGITS):
            self.check_line(lines, 7, wrong)
        # Only the last line is read as a paper.
        self.refused(BadText(7), parse_case, "\n".join(lines) + "\n")
        self.refused(BadText(7), parse_case, "\n".join(lines[:6] + ["", ""]))
        self.refused(BadText(7), parse_case, "\n".join(lines + lines[-1:]))
        self.refused(BadText(4), parse_case, "\n".join(lines[:3] + ["hueing 0", "hueing 0"]))

    def test_2000_and_2001_arrow_lines(self):
        web = Web(45, [(u, v) for u in range(45) for v in range(45)][:2000])
        text = format_case(web, 2, [200], ("loop", 0))
        self.gives((web, 2, (200,), ("loop", 0)), parse_case, text)
        self.gives(True, judge_text, text)
        lines = text.split("\n")
        longer = lines[:-1] + ["44 44"] + lines[-1:]
        self.assertEqual(len(longer), 2005)
        self.refused(BadText(2004), parse_case, "\n".join(longer))
        self.refused(BadText(2004), parse_case, "\n".join(longer[:-1] + ["nonsense"]))
        self.refused(BadText(2003), parse_case, "\n".join(longer[:2002] + ["0 0"] + longer[2003:]))
        self.refused(BadText(2004), parse_case, "\n".join(lines[:-1] + ["44 44"]))

    def test_the_order_of_the_checks(self):
        for web in NOT_WEBS:
            self.refused(BadWeb(None), format_case, web, None, None, None)
        for span in NOT_SPANS:
            self.refused(BadNumber(), format_case, hub_web(69, 29), span, None, None)
        for bounds, bad_at in WRONG_BOUNDS:
            self.refused(BadBounds(bad_at), format_case, hub_web(69, 29), 6, bounds, None)

    def test_judged_texts(self):
        for web, span, bounds in ((row_web(4), 3, [2]), (row_web(4), 3, [2, 2]), (ring_web(1), 2, [2]), (Web(0), 5, [1])):
            for paper in WELL_FORMED + (decide(web, span, bounds), ("loop", 0), ("row", [0, 1, 2, 3])):
                expected = is_answer(web, span, bounds, paper)
                self.gives(expected, judge_text, format_case(web, span, bounds, paper))
        self.gives(True, judge_text, format_case(ring_web(1), 2, [2], ("loop", 0)))
        self.refused(TooMany(2000), judge_text, format_case(hub_web(69, 29), 3, [200] * 8, ("loop", 0)))
        for span, bounds in TOWERS_OF_MORE:
            self.refused(TooMany(200), judge_text, format_case(ring_web(1), span, bounds, ("loop", 0)))

    def test_equal_calls_with_others_in_between_and_a_later_change(self):
        def answers():
            return shown([
                format_paper(TEXTS[8][0]), parse_paper(TEXTS[8][1]), parse_case("span 2\nbounds 1\nweb 1\nrow 0"),
                judge_text("span 2\nbounds 1\nweb 1\nhueing"), format_case(dense_web(2), 2, [1], ("loop", 1)),
            ])
        before = answers()
        for _, text in TEXTS:
            parse_paper(text)
        ties = parse_paper(TEXTS[8][1])
        ties[1][0].clear()
        ties[1][1][0].clear()
        ties[1][1].clear()
        parse_case("span 2\nbounds 1\nweb 1\nrow 0")[3][1].clear()
        self.assertEqual(answers(), before)


if __name__ == "__main__":
    unittest.main()
