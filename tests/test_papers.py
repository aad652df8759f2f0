"""Papers, right and wrong: points 3 to 8, 46 and 47, and huewalks.papers."""

import unittest
from itertools import product

from huewalks.cases import hue_refusal, is_hue_refusal
from huewalks.closedlots import tower
from huewalks.errors import BadBounds, BadNumber, BadPaper, BadWeb, TooMany
from huewalks.huelay import laying_of
from huewalks.lay import find_laying, is_laying, is_refusal, refusal
from huewalks.papers import decide, is_answer, says_yes
from huewalks.roads import find_hueing, keeps_bounds
from huewalks.rowcase import longest_row, row_hueing
from huewalks.walks import all_walks, is_hueing
from huewalks.webs import Web, path_web, ring_web, row_web, two_way_web
from huewalks.width import chain_cover, width_of
from helpers import (
    CLASH, HUGE, NOT_INTEGERS, NOT_PAPERS, NOT_SEQUENCES, NOT_SPANS, NOT_WEBS, ROAD, TOWERS_OF_200, TOWERS_OF_MORE,
    WELL_FORMED, WRONG_BOUNDS, ProgramTest, all_small_webs, as_lists, dense_web, hub_web, is_tuples_throughout,
    nested_tree, shown, spoiled,
)

WORDS = ("hueing", "laying", "cases", "hues", "row", "loop", "ties")

def tied(places):
    """The two-way web with all ties."""
    return two_way_web(places, [(i, j) for j in range(places) for i in range(j)])


class QuestionTest(ProgramTest):

    def right(self, web, span, bounds, paper):
        """The paper is right, and so it is with lists in the place of tuples."""
        self.gives(True, is_answer, web, span, bounds, paper)
        self.gives(True, is_answer, web, span, tuple(bounds), as_lists(paper))

    def wrong(self, web, span, bounds, *papers):
        """None of the papers is right."""
        for paper in papers:
            self.gives(False, is_answer, web, span, bounds, paper)
            self.gives(False, is_answer, web, span, bounds, as_lists(paper))


class JudgeTest(QuestionTest):

    def test_hueings(self):
        self.right(row_web(4), 3, [2, 2], ("hueing", (0, 0, 0, 1)))
        self.wrong(row_web(4), 3, [2, 2], ("hueing", [0, 0, 0, 0]), ("hueing", [0, 0, 0, 2]), ("hueing", [0, 0, 0]),
                   ("laying", [0, 0, 0, 1]), ("row", [0, 0, 0, 1]), ("hueing", ()))
        self.right(Web(2), 3, [1], ("hueing", ()))
        self.right(Web(0), 6, [1], ("hueing", []))
        self.right(row_web(12), 3, [4, 3], ("hueing", tuple(row_hueing(12, 3, [4, 3]))))
        for web in all_small_webs(2):
            for span in (2, 3):
                for hues in product(range(3), repeat=len(all_walks(web, span))):
                    if len(hues) <= 4:
                        expected = is_hueing(web, span, 2, hues) and keeps_bounds(web, span, [2, 1], hues)
                        self.assertIs(is_answer(web, span, [2, 1], ("hueing", hues)), expected)

    def test_layings(self):
        self.right(row_web(4), 3, [2, 2], ("laying", (0, 3, 4, 5)))
        self.wrong(row_web(4), 3, [2, 2], ("laying", [0, 0, 4, 5]), ("laying", [0, 3, 4, 6]), ("laying", [0, 3, 4]),
                   ("laying", []), ("hueing", [0, 3, 4, 5]))
        self.right(Web(0), 2, [1], ("laying", []))
        for web in all_small_webs(2):
            order = tower(2, [2, 2])
            for things in product(range(5), repeat=web.places):
                self.assertIs(is_answer(web, 2, (2, 2), ("laying", things)), is_laying(web, order, things))

    def test_cases(self):
        for web, span, bounds in (
            (row_web(4), 3, [2]), (row_web(5), 2, [2, 2]), (ring_web(1), 3, [2, 1]), (tied(3), 2, [2, 2]),
        ):
            tree = refusal(web, tower(span, bounds))
            self.right(web, span, bounds, ("cases", tree))
            self.wrong(web, span, bounds, ("cases", tree[2][0]), ("hues", tree), ("cases", ("split", 0, tree[2][:-1])))
            self.wrong(web.without_arrow(*web.arrows[-1]), span, bounds, ("cases", tree))
            self.assertIs(is_refusal(web, tower(span, bounds), tree), True)

    def test_a_refusal_of_more_than_20000_trees_is_no_right_paper(self):
        web = Web(2, [(0, 0)])
        for things, trees in ((140, 19741), (141, 20023)):
            tree = ("split", 1, (("split", 0, (("clash", 0, 0),) * things),) * things)
            self.assertEqual(1 + things + things * things, trees)
            self.assertIs(is_refusal(web, tower(2, [things]), tree), True)
            self.assertIs(is_answer(web, 2, [things], ("cases", tree)), trees <= 20000)

    def test_hue_refusals(self):
        for web, span, bounds in (
            (row_web(4), 3, [2]), (row_web(3), 2, [2]), (ring_web(1), 2, [3, 2]), (row_web(5), 2, [2, 2]),
            (ring_web(2), 4, [3, 2]),
        ):
            tree = hue_refusal(web, span, bounds)
            if tree is None:
                self.assertIsNotNone(find_hueing(web, span, bounds))
                continue
            self.right(web, span, bounds, ("hues", tree))
            self.assertIs(is_hue_refusal(web, span, bounds, tree), True)
            self.wrong(web, span, bounds, ("hues", tree[2][0]), ("cases", tree), ("hues", ("hue", tree[1], tree[2][:-1])))

    def test_rows(self):
        web = Web(5, [(4, 2), (4, 1), (2, 1), (1, 3), (2, 3), (4, 3)])
        self.assertEqual(longest_row(web), [4, 2, 1, 3])
        self.right(web, 3, [2], ("row", (4, 2, 1, 3)))
        self.wrong(web, 3, [2], ("row", (4, 2, 1)), ("row", (4, 1, 2, 3)), ("row", (4, 2, 1, 3, 0)), ("row", ()),
                   ("row", (4, 2, 1, 1)), ("row", (4, 2, 1, 5)))
        self.wrong(web, 3, [3], ("row", (4, 2, 1, 3)))
        self.right(row_web(63), 2, [2, 31], ("row", tuple(range(63))))
        self.wrong(row_web(63), 2, [7, 9], ("row", tuple(range(63))))

    def test_loops(self):
        web = Web(3, [(0, 1), (1, 1), (1, 2)])
        for span in range(2, 7):
            self.right(web, span, [1, 2], ("loop", 1))
            self.wrong(web, span, [1, 2], ("loop", 0), ("loop", 2), ("loop", 3), ("loop", 9999))
        self.wrong(Web(0), 2, [1], ("loop", 0))

    def test_ties(self):
        order = tower(2, [2, 2])
        cover = tuple([tuple(chain) for chain in chain_cover(order)])
        self.assertEqual(len(cover), 2)
        places = (2, 0, 3)
        self.right(tied(4), 2, [2, 2], ("ties", (places, cover)))
        self.right(tied(4), 2, [2, 2], ("ties", (places, ((3, 1, 0), (2,)))))
        self.right(tied(4), 2, [2, 2], ("ties", ((0, 1, 2, 3), cover)))
        self.right(tied(4), 2, [2, 2], ("ties", ((0, 1, 2, 3), ((0,), (1, 3), (2,)))))
        self.wrong(
            tied(4), 2, [2, 2], ("ties", ((0, 1), cover)), ("ties", ((0, 1, 1), cover)), ("ties", ((0, 1, 4), cover)),
            ("ties", (places, cover[:1])), ("ties", (places, ((0,), (1, 3), (2,)))), ("ties", (places, ((0, 1, 2, 3),))),
            ("ties", (places, cover + ((),))), ("ties", ((0, 1, 2, 3), cover + ((),))), ("ties", (places, ())),
            ("ties", (places, ((0, 1, 3), (2, 3)))), ("ties", (places, ((0, 1, 3), (2, 4)))), ("ties", ((), ())),
        )
        for arrow in ((2, 0), (0, 3), (3, 2)):
            self.wrong(tied(4).without_arrow(*arrow), 2, [2, 2], ("ties", (places, cover)))
        self.wrong(row_web(4), 2, [2, 2], ("ties", (places, cover)), ("ties", ((0, 1, 2), cover)))
        for span in (3, 4, 5):
            order = tower(span, [2, 2])
            many = width_of(order) + 1
            self.right(tied(many), span, [2, 2], ("ties", (tuple(range(many)), tuple(map(tuple, chain_cover(order))))))

    def test_what_is_not_well_formed_is_not_right(self):
        for web, span, bounds in ((row_web(3), 2, [2]), (ring_web(1), 2, [1]), (Web(0), 3, [2, 2])):
            self.judges_not(NOT_PAPERS, is_answer, web, span, bounds)
        for paper in (("hueing", [0, 0, 0, 1]), ("laying", (0, 3, 4, 5))):
            self.judges_not(spoiled(paper), is_answer, row_web(4), 3, [2, 2])
        self.judges_not(spoiled(("loop", 0)), is_answer, ring_web(1), 3, [2, 2])
        self.judges_not(spoiled(("row", [0, 1, 2, 3])), is_answer, row_web(4), 3, [2])
        self.judges_not(spoiled(("cases", refusal(row_web(3), tower(2, [2])))), is_answer, row_web(3), 2, [2])
        self.judges_not(spoiled(("hues", hue_refusal(row_web(3), 2, [2]))), is_answer, row_web(3), 2, [2])
        self.judges_not(spoiled(("ties", ([0, 1], [[0, 1]]))), is_answer, tied(2), 2, [2])
        self.right(tied(2), 2, [2], ("ties", ([0, 1], [[0, 1]])))

    def test_no_question_has_papers_of_both_kinds(self):
        chains = [chain_cover(tower(span, [2])) for span in (2, 3)]
        for web in all_small_webs(2) + all_small_webs(3)[20::40]:
            for span in (2, 3):
                if len(all_walks(web, span)) > 8:
                    continue
                order = tower(span, [2])
                hues = find_hueing(web, span, [2])
                yes = [] if hues is None else [("hueing", hues), ("laying", laying_of(web, span, [2], hues))]
                for paper in yes:
                    self.right(web, span, [2], paper)
                no = [("loop", place) for place in range(web.places)]
                no += [("row", longest_row(web)), ("ties", (list(range(web.places)), chains[span - 2]))]
                no += [("cases", refusal(web, order)), ("hues", hue_refusal(web, span, [2]))]
                right = [paper for paper in no if is_answer(web, span, [2], paper)]
                self.assertIs(bool(right), hues is None)

    def test_the_order_of_the_checks(self):
        for call, rest in ((is_answer, (None,)), (decide, ())):
            for web in NOT_WEBS:
                self.refused(BadWeb(None), call, web, None, None, *rest)
            for span in NOT_SPANS:
                self.refused(BadNumber(), call, hub_web(69, 29), span, None, *rest)
            for span in (3, 6):
                self.refused(TooMany(2000), call, hub_web(69, 29), span, None, *rest)
            for bounds, bad_at in WRONG_BOUNDS:
                self.refused(BadBounds(bad_at), call, path_web(3), 3, bounds, *rest)
            for span, bounds in TOWERS_OF_MORE:
                self.refused(TooMany(200), call, path_web(3), span, bounds, *rest)
        for span, bounds in TOWERS_OF_MORE:
            self.refused(TooMany(200), is_answer, ring_web(1), span, bounds, ("loop", 0))
        for span, bounds in TOWERS_OF_200:
            self.gives(True, is_answer, ring_web(1), span, bounds, ("loop", 0))
        self.gives(True, is_answer, paper=("loop", 0), bounds=[1], span=2, web=ring_web(1))


class DecideTest(QuestionTest):

    def check(self, web, span, bounds):
        paper = decide(web, span, bounds)
        self.assertEqual(shown(decide(web, span, tuple(bounds))), shown(paper))
        self.assertEqual((type(paper), len(paper)), (tuple, 2))
        self.assertIs(is_answer(web, span, bounds, paper), True)
        if paper[0] in ("hueing", "laying"):
            self.assertTrue(type(paper[1]) is list and all([type(member) is int for member in paper[1]]))
        if paper[0] in ("cases", "hues"):
            self.assertTrue(is_tuples_throughout(paper[1]))
        possible = find_laying(web, tower(span, bounds)) is not None
        self.gives(possible, says_yes, paper)
        return possible

    def test_small_webs(self):
        answers = []
        for web in all_small_webs(2) + all_small_webs(3)[20::11] + [row_web(4), row_web(5), tied(3), ring_web(4)]:
            for span, bounds in ((2, [1]), (2, [2, 2]), (3, [2]), (4, [1, 1]), (3, [2, 2])):
                answers.append(self.check(web, span, bounds))
        self.assertIn(True, answers)
        self.assertIn(False, answers)

    def test_ordinary_answers(self):
        self.assertIs(self.check(row_web(4), 3, [2, 2]), True)
        self.assertIs(self.check(row_web(4), 3, [2]), False)
        self.assertIs(self.check(Web(0), 6, [1]), True)
        self.assertEqual(says_yes(decide(bounds=(2,), span=3, web=row_web(3))), True)

    def test_the_limits_of_the_search(self):
        self.assertIs(self.check(Web(13), 2, [2]), True)
        self.assertIs(self.check(Web(13, [(12, 12)]), 2, [2]), False)
        self.assertIs(self.check(Web(13, [(12, 12)]), 2, [1]), False)
        self.assertIs(self.check(Web(2, [(1, 1)]), 2, [100]), False)
        self.assertIs(self.check(Web(1, [(0, 0)]), 2, [200]), False)
        for web in (Web(14), Web(14, [(0, 0)])):
            self.refused(TooMany(13), decide, web, 2, [1])
            self.refused(TooMany(13), decide, web, 2, [200])
        self.refused(TooMany(10000), decide, Web(3), 2, [22])
        self.refused(TooMany(10000), decide, Web(2, [(0, 0)]), 2, [101])
        self.refused(TooMany(10000), decide, Web(13), 2, [3])

    def test_a_later_change(self):
        bounds = [2, 2]
        paper = decide(row_web(3), 2, bounds)
        before = shown(paper)
        paper[1].clear()
        self.assertEqual(shown(decide(row_web(3), 2, bounds)), before)
        decide(dense_web(2), 3, [2])
        self.assertEqual(shown(decide(row_web(3), 2, bounds)), before)


class SaysYesTest(ProgramTest):

    def test_each_word(self):
        for paper in WELL_FORMED:
            expected = paper[0] in ("hueing", "laying")
            self.gives(expected, says_yes, paper)
            self.gives(expected, says_yes, paper=as_lists(paper))
        self.assertEqual(sorted([paper[0] for paper in WELL_FORMED]), sorted(WORDS))

    def test_empty_sequences(self):
        for paper in (("hueing", []), ("laying", ())):
            self.gives(True, says_yes, paper)
        for paper in (("row", []), ("ties", ([], ())), ("ties", ((), [[], []])), ("cases", ("split", 0, ())),
                      ("hues", ["hue", [], []]), ("hues", ("road", 0, ()))):
            self.gives(False, says_yes, paper)

    def test_trees_at_their_limits(self):
        full = ("split", 0, (CLASH,) * 99)
        most = ("split", 0, (full,) * 199 + (("split", 0, (CLASH,) * 98),))
        for paper in (
            ("cases", nested_tree("split", 9999, 13)), ("hues", nested_tree("hue", (9999,), 10)), ("cases", most),
            ("cases", ("split", 0, (CLASH,) * 200)), ("hues", ("hue", (), (ROAD,) * 200)),
            ("hues", ("road", 0, (9999,) * 9999)), ("hues", ("hue", (0,) * 9999, ())), ("hueing", [0] * 20000),
        ):
            self.assertIs(says_yes(paper), paper[0] == "hueing")
        for paper in (
            ("cases", nested_tree("split", 9999, 14)), ("hues", nested_tree("hue", (9999,), 11)), ("cases", ("split", 0, (full,) * 200)),
            ("cases", ("split", 0, (CLASH,) * 201)), ("hues", ("hue", (), (ROAD,) * 201)),
            ("hues", ("road", 0, (9999,) * 10000)), ("hues", ("hue", (0,) * 10000, ())),
        ):
            self.refused(BadPaper(None), says_yes, paper)

    def test_what_is_not_well_formed(self):
        for paper in NOT_PAPERS:
            self.refused(BadPaper(None), says_yes, paper)
        for paper in WELL_FORMED:
            for bad in spoiled(paper):
                self.refused(BadPaper(None), says_yes, bad)
            for value in NOT_SEQUENCES:
                if paper[0] != "loop" or type(value) is not int:
                    self.refused(BadPaper(None), says_yes, (paper[0], value))
            for number in NOT_INTEGERS + (-1, 10000, HUGE, -HUGE):
                self.refused(BadPaper(None), says_yes, (paper[0], [[number]]))


if __name__ == "__main__":
    unittest.main()
