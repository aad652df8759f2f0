"""Scripts: points 5, 10, 44, 45 and 48, and huewalks.script."""

import random
import unittest

from huewalks.engine import Engine
from huewalks.errors import BadText, HueError
from huewalks.rowcase import row_limit
from huewalks.script import run_script
from huewalks.webs import Web
from helpers import ProgramTest, shown

MANY_DIGITS = "9" * 6000

NOT_TEXTS = (None, True, 0, 3, [], ["start 2 2"], ("start 2 2",), {}, {"start": 2}, Web(1), 10 ** 399)


def script(*lines):
    """The text of these lines, those of a list in a row."""
    return "\n".join([line for part in lines for line in (part if isinstance(part, list) else [part])])


class ScriptTest(ProgramTest):

    def runs(self, expected, *lines):
        """The script gives these texts."""
        self.gives(expected, run_script, script(*lines))

    def test_each_kind_of_line(self):
        self.runs(
            ["ok", "0", "1", "2", "3", "0", "1", "0", "2", "3", "ok", "2", "1", "0", "0", "1 0 0", "0 2 3 5", "6"],
            "start 3 2 2", ["place"] * 4, "arrow 0 1", "arrow 1 2", "arrow 0 2", "arrow 2 3", "bare", "paint 0 1 2 1", "bare",
            "road 1", "road 0", "fill", "show", "lay", "limit",
        )
        self.runs(
            ["ok", "0", "1", "2", "1", "1", "ok", "none", "0", "none", "1", "ok", "1", "ok", "none"],
            "start 2 3 1", ["place"] * 3, "arrow 2 0", "arrow 1 2", "paint 1 2 0", "clean 2 0", "clean 1 2", "clean 1 2",
            "drop 1 2", "undo", "drop 2 0", "undo", "clean 2 0",
        )
        self.runs(["ok"] + ["none"] * 2, "start 2 1", ["undo"] * 2)
        self.gives(["ok", "0"], run_script, text="start 2 1\nplace")

    def test_no_walks_and_no_places(self):
        for span in range(2, 7):
            self.runs(["ok", "none", "none", "0", "0", "0", "none"], f"start {span} 2 2", "show", "lay", "fill", "bare",
                      "road 1", "undo")
        self.runs(["ok", "0", "none", "0"], "start 2 2", "place", "show", "lay")
        self.runs(["ok", "0", "none", "2"], "start 3 2", "place", "show", "lay")
        # A refusal goes before an answer without places.
        self.runs(["ok", "none", "refused TooMany"], "start 3 200", "show", "lay")

    def test_refused_lines_of_each_class(self):
        self.runs(
            ["ok", "0", "1", "1", "refused BadNumber", "refused BadNumber", "refused BadWeb", "refused BadWeb",
             "refused BadWalk", "refused BadNumber", "refused Unhued", "refused Unhued", "refused TooLong",
             "refused BadWalk", "refused BadNumber", "1", "ok", "0", "refused TooLong", "1"],
            "start 2 1 2", ["place"] * 2, "arrow 0 1", "arrow 2 0", "drop 0 9999", "arrow 0 1", "drop 1 0", "paint 1 0 0",
            "paint 0 1 2", "show", "lay", "paint 0 1 0", "clean 0 0", "road 2", "bare", "paint 0 1 1", "fill", "paint 0 1 0",
            "show",
        )
        self.runs(["ok", "0", "1", "1"] + ["refused BadWeb"] * 2, "start 2 2", ["place", "place"], ["arrow 0 1"] * 3)

    def test_more_than_100_places_and_300_deeds(self):
        self.runs(["ok"] + [str(i) for i in range(100)] + ["refused TooMany"] * 3, "start 2 2", ["place"] * 103)
        lines = ["place", "place"] + ["arrow 0 1", "drop 0 1"] * 149
        answers = ["0", "1"] + ["1", "1"] * 149
        self.assertEqual(len(lines), 300)
        self.runs(
            ["ok"] + answers + ["refused TooMany", "refused TooMany", "refused BadWeb", "0", "ok", "none", "2", "2", "0"],
            "start 2 2", lines, "place", "arrow 0 1", "drop 0 1", "fill", "undo", "clean 0 1", "limit", "limit", "road 0",
        )

    def test_too_many_walks(self):
        lines = ["place"] * 100 + [f"arrow {i} 99" for i in range(50)] + [f"arrow 99 {i}" for i in range(50, 99)]
        answers = run_script(script("start 3 2 2", lines, "bare", "fill", "road 0"))
        self.assertEqual(answers[:101], ["ok"] + [str(i) for i in range(100)])
        self.assertEqual(answers[101:151], ["0"] * 50)
        self.assertEqual(answers[151:191], ["50"] * 40)
        self.assertEqual(answers[191:], ["refused TooMany"] * 9 + ["2000", "0", "1"])

    def test_limit(self):
        for start in ("2 5", "2 200 200", "3 2 2 2", "3 90 90", "4 2 6", "6 3", "3 2 2 2 2", "5 2 2"):
            span, *bounds = [int(word) for word in start.split(" ")]
            self.runs(["ok", str(row_limit(span, bounds))], f"start {start}", "limit")
        for start in ("3 200 200", "3 200 200 200", "3 2 2 2 2 2", "4 199", "6 200 200", "3 102 102"):
            self.runs(["ok", "refused TooMany", "refused TooMany"], f"start {start}", "limit", "limit")
        self.runs(["ok", str(200 ** 8)], "start 2" + " 200" * 8, "limit")

    def test_limit_at_10_to_the_power_60(self):
        below = [bounds for bounds in range(90, 110) if row_limit(3, [bounds, bounds]) < 10 ** 60]
        self.assertTrue(0 < len(below) < 20)
        for bound in (below[-1], below[-1] + 1):
            most = row_limit(3, [bound, bound])
            told = str(most) if most < 10 ** 60 else "refused TooMany"
            self.runs(["ok", told], f"start 3 {bound} {bound}", "limit")

    def test_the_same_as_an_engine(self):
        chance = random.Random(48)
        for start in ("2 2 2", "3 2 2", "4 3", "2 3 1 2", "6 2 2"):
            span, *bounds = [int(word) for word in start.split(" ")]
            engine, lines, answers = Engine(span, bounds), [f"start {start}"], ["ok"]
            for _ in range(390):
                line = self.random_line(chance, engine)
                lines.append(line)
                answers.append(self.told(engine, line))
            self.runs(answers, lines)

    def random_line(self, chance, engine):
        word = chance.choice(["arrow"] * 6 + ["paint"] * 8 + ["drop", "clean", "place", "fill", "undo", "bare", "show", "lay",
                                                           "limit", "road"])
        if word == "place" and engine.web.places > 4 or word == "arrow" and len(engine.bare()) > 30:
            word = "undo"
        places = [str(chance.randrange(engine.web.places + 1)) for _ in range(engine.span)]
        bare = engine.bare()
        if bare and chance.random() < 0.8:
            places = [str(place) for place in chance.choice(bare)]
        hue = str(chance.randrange(len(engine.bounds) + 1))
        rest = {"arrow": places[:2], "drop": places[:2], "paint": places + [hue], "clean": places, "road": [hue]}
        return " ".join([word] + rest.get(word, []))

    def told(self, engine, line):
        word, *rest = line.split(" ")
        numbers = [int(each) for each in rest]
        try:
            return {
                "place": lambda: str(engine.add_place()),
                "arrow": lambda: str(len(engine.add_arrow(*numbers))),
                "drop": lambda: str(len(engine.drop_arrow(*numbers))),
                "paint": lambda: engine.paint(numbers[:-1], numbers[-1]) or "ok",
                "clean": lambda: str(engine.clean(numbers)).lower(),
                "fill": lambda: str(engine.fill()),
                "undo": lambda: "ok" if engine.undo() else "none",
                "bare": lambda: str(len(engine.bare())),
                "road": lambda: str(engine.deepest(numbers[0])),
                "show": lambda: " ".join(map(str, engine.hues())) or "none",
                "lay": lambda: " ".join(map(str, engine.laying())) or "none",
                "limit": lambda: str(row_limit(engine.span, engine.bounds)),
            }[word]()
        except HueError as error:
            return "refused " + type(error).__name__


class FormTest(ProgramTest):

    def test_no_strings(self):
        for text in NOT_TEXTS:
            self.refused(BadText(0), run_script, text)

    def test_wrong_first_lines(self):
        for line in (
            "", "start", "start ", "start 2", "start 2 ", "start  2 2", " start 2 2", "start 2 2 ", "start 1 2", "start 7 2",
            "start 2 0", "start 2 201", "start 2 2 0", "start 2" + " 1" * 9, "start 2" + " 0" * 9, "start 02 2", "start 2 02",
            "start 2 +2", "start -2 2", "start 2,2", "start 2\t2", "Start 2 2", "starts 2 2", "place", "start two 2", "2 2",
            "start 2 10000", "start 2 " + MANY_DIGITS, "start " + MANY_DIGITS + " 2", "start 2 2\r", "begin 2 2", "start 2 x",
            "start 2 \u0662",
        ):
            for rest in ([], ["place"], ["nonsense"], ["place"] * 500):
                self.refused(BadText(1), run_script, script(line, rest))
        for line in ("start 2 1", "start 6 200", "start 2" + " 1" * 8, "start 3 1 200"):
            self.gives(["ok"], run_script, line)

    def test_wrong_lines(self):
        for span in range(2, 7):
            walk = " 0" * span
            for line in (
                "", " ", "places", "place ", " place", "place 0", "Place", "place\t", "arrow", "arrow 0", "arrow 0 1 2",
                "arrow  0 1", "arrow 0  1", "arrow 0 1 ", "arrow 0 x", "arrow 0 -1", "arrow 0 01", "arrow 0 10000", "drop",
                "drop 0", "drop 0 1 2", "drop 0 00", "drop 1 " + MANY_DIGITS, "paint", "paint" + walk, "paint" + walk + " 0 0",
                "paint" + walk + " ", "paint" + walk + " x", "paint" + walk + " 10000", "clean", "clean" + walk[2:],
                "clean" + walk + " 0", "clean" + walk + " ", "clean" + walk[2:] + " x", "fill ", "fill 0", "undo 1", "undo ",
                "bare 0", "bare ", "road", "road ", "road 0 0", "road -1", "road x", "road " + MANY_DIGITS, "show 0", "show ",
                "lay 0", "lay ", "limit 0", "limit ", "start 2 2", f"start {span} 2", "nothing", "0", "web 3", "add_place",
                "paint" + walk + " \u0660", "fill\r", "place place",
            ):
                for before in (1, 2, 5):
                    lines = [f"start {span} 2 2"] + ["place"] * (before - 1)
                    for rest in ([], ["place"], ["nonsense"]):
                        self.refused(BadText(before + 1), run_script, script(lines, line, rest))
            for line in ("place", "arrow 0 1", "drop 9999 9999", "paint" + walk + " 9999", "clean" + walk, "fill", "undo",
                         "bare", "road 9999", "show", "lay", "limit"):
                self.assertEqual(len(run_script(script(f"start {span} 2 2", line))), 2)

    def test_a_newline_at_the_end(self):
        self.refused(BadText(2), run_script, "start 2 2\n")
        self.refused(BadText(3), run_script, "start 2 2\nplace\n")
        self.refused(BadText(1), run_script, "\nstart 2 2")
        self.refused(BadText(2), run_script, "start 2 2\n\nplace")

    def test_400_and_401_lines(self):
        self.assertEqual(run_script(script("start 2 2", ["bare"] * 399)), ["ok"] + ["0"] * 399)
        for rest in (["bare"] * 400, ["bare"] * 399 + ["nonsense"], ["bare"] * 399 + [""], ["bare"] * 600,
                     ["bare"] * 400 + ["nonsense"]):
            self.refused(BadText(401), run_script, script("start 2 2", rest))
        self.refused(BadText(400), run_script, script("start 2 2", ["bare"] * 398, "nonsense", ["bare"] * 9))
        self.refused(BadText(3), run_script, script("start 2 2", "bare", "nonsense", ["bare"] * 500))
        self.refused(BadText(1), run_script, script("start 2 201", ["bare"] * 500))

    def test_equal_calls_with_others_in_between_and_a_later_change(self):
        def answers():
            return shown(run_script("start 2 2 2\nplace\nplace\narrow 0 1\nfill\nshow\nlay\nlimit"))
        before = answers()
        run_script("start 2 2 2\nplace\nplace\narrow 0 1\nfill\nshow").clear()
        run_script("start 6 1\nplace\nundo")
        self.assertEqual(answers(), before)


if __name__ == "__main__":
    unittest.main()
