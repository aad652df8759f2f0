"""Tables, patterns, steady choices and the best table: points 3 to 8, 36 and 37, and huewalks.rises."""

import unittest
from itertools import combinations, product

from huewalks.box import box_rows
from huewalks.errors import BadBounds, BadNumber, BadTable, TooMany
from huewalks.rises import best_table, is_steady, pattern, steady_choice, table_hues
from huewalks.walks import all_walks
from huewalks.webs import row_web
from helpers import HUGE, NOT_INTEGERS, NOT_SEQUENCES, ODD_VALUES, WRONG_BOUNDS, ProgramTest, shown, spoiled

NOT_ROWS = NOT_SEQUENCES + ([], (), [0] * 4, (0,) * 4, [None], (1, True), ["0"], [[0]])

NOT_HUES = NOT_INTEGERS + (-1, 8, HUGE, -HUGE)

# Tables of 1, 2 and 3 columns, some with equal rows and with great integers.
TABLES = [
    [], [[5]], [[0, 0]], [[1, 2, 3]], [[0], [0]], [[0, 1], [0, 1], [0, 1]], [[HUGE], [-HUGE], [0]],
    [[i] for i in range(6)], [[-i] for i in range(6)], [[3], [1], [4], [1], [5], [9], [2], [6]],
    [[0, 1], [1, 0], [2, 2], [2, 3], [0, 0], [3, 1]], [[1, 1, 1], [2, 0, 2], [2, 2, 0], [0, 3, 3], [1, 1, 1], [4, 4, 4]],
    [[i * 3 % 7, i * 5 % 8, i * 2 % 5] for i in range(8)], [[i * 3 % 7, i * 5 % 8] for i in range(9)],
]


def pattern_by_trial(earlier, later):
    """The pattern, read as a text of binary digits."""
    return int("".join(["01"[not later[e] > earlier[e]] for e in range(len(earlier))]), 2)


def all_choices(table, hue):
    """All steady choices of the pattern, each a tuple."""
    return [
        places for size in range(len(table) + 1) for places in combinations(range(len(table)), size)
        if all(pattern_by_trial(table[i], table[j]) == hue for i, j in combinations(places, 2))
    ]


def choice_by_trial(table, bounds):
    """The answer of steady_choice."""
    for hue, bound in enumerate(bounds):
        right = sorted([list(places) for places in all_choices(table, hue) if len(places) == bound + 1])
        if right:
            return (hue, right[0])
    return None


class PatternTest(ProgramTest):

    def test_all_small_rows(self):
        for columns in (1, 2, 3):
            for earlier in product(range(3), repeat=columns):
                for later in product(range(3), repeat=columns):
                    expected = pattern_by_trial(earlier, later)
                    self.assertEqual(shown(pattern(earlier, later)), shown(expected))
                    self.assertEqual(shown(pattern(list(earlier), later)), shown(expected))

    def test_ordinary_answers(self):
        self.gives(0, pattern, [0, 0, 0], (1, 1, 1))
        self.gives(7, pattern, (1, 1, 1), [1, 0, 1])
        self.gives(4, pattern, later=[1, 3, 3], earlier=[1, 2, 2])
        self.gives(2, pattern, later=(2, 2, 3), earlier=(1, 2, 2))
        self.gives(1, pattern, [1, 2, 2], [2, 3, 2])
        self.gives(1, pattern, [0], [0])
        self.gives(0, pattern, [-HUGE], [HUGE])
        self.gives(1, pattern, [HUGE], [-HUGE])

    def test_wrong_rows(self):
        for row in NOT_ROWS:
            self.refused(BadTable(None), pattern, row, [0])
            self.refused(BadTable(None), pattern, [0], row)
            self.refused(BadTable(None), pattern, row, row)
        for member in NOT_INTEGERS:
            self.refused(BadTable(None), pattern, [0, member], [0, 0])
            self.refused(BadTable(None), pattern, [0, 0], (member, 0))
        for first, second in (([0], [0, 0]), ([0, 0, 0], [0, 0]), ((0, 0), (0,))):
            self.refused(BadTable(None), pattern, first, second)


class TableHuesTest(ProgramTest):

    def test_small_tables(self):
        for table in TABLES:
            walks = all_walks(row_web(len(table)), 2)
            expected = [pattern_by_trial(table[i], table[j]) for i, j in walks]
            self.gives(expected, table_hues, table)
            self.gives(expected, table_hues, tuple([tuple(row) for row in table]))

    def test_tables_of_0_1_and_40_rows(self):
        self.gives([], table_hues, [])
        self.gives([], table_hues, table=())
        self.gives([], table_hues, table=[[7, 7, 7]])
        self.gives([0] * 780, table_hues, [[i, i] for i in range(40)])
        self.gives([7] * 780, table_hues, [[0, 0, 0]] * 40)

    def test_wrong_tables(self):
        questions = ((table_hues, ()), (is_steady, (None, None)), (steady_choice, (None,)))
        for call, rest in questions:
            for table in NOT_SEQUENCES + ([[0]] * 41, ([0],) * 41, [None] * 41):
                self.refused(BadTable(None), call, table, *rest)
            for row in NOT_ROWS:
                self.refused(BadTable(0), call, [row], *rest)
                self.refused(BadTable(1), call, [[0], row, None], *rest)
                self.refused(BadTable(39), call, [[0]] * 39 + [row], *rest)
            for row in ([0], (0, 0, 0), [0, None], [True, 0]):
                self.refused(BadTable(2), call, ([0, 0], [1, 1], row, row), *rest)
        for member in NOT_INTEGERS:
            self.refused(BadTable(1), table_hues, [[1, 2], [3, member], [member, 4]])


class SteadyTest(ProgramTest):

    def test_all_choices_of_small_tables(self):
        for table in TABLES:
            for hue in range(8):
                right = all_choices(table, hue)
                for size in range(4):
                    for places in product(range(-1, min(len(table), 6) + 1), repeat=size):
                        self.assertIs(is_steady(table, hue, places), places in right)
                        self.assertIs(is_steady(table, hue, list(places)), places in right)

    def test_patterns_that_the_columns_cannot_make(self):
        for hue in range(2, 8):
            self.gives(True, is_steady, [[0], [1]], hue, [])
            self.gives(True, is_steady, [[0], [1]], hue, (1,))
            self.gives(False, is_steady, [[0], [1]], hue, [0, 1])
        for hue in range(4, 8):
            self.gives(False, is_steady, [[0, 0], [0, 0]], hue, (0, 1))
        self.gives(True, is_steady, [], 7, ())
        self.gives(False, is_steady, [], 7, (0,))

    def test_ordinary_answers(self):
        self.gives(True, is_steady, places=(0, 2, 3), hue=0, table=[[1], [9], [2], [3]])
        self.gives(False, is_steady, [[1], [9], [2], [3]], 0, [0, 1, 2])
        self.gives(True, is_steady, [[2], [2], [2]], 1, [0, 1, 2])
        self.gives(False, is_steady, [[2], [2], [2]], 0, [0, 1])
        self.gives(True, is_steady, [[0, 0, 0]] * 40, 7, list(range(40)))
        self.gives(False, is_steady, [[0, 0, 0]] * 40, 7, list(range(41)))
        self.gives(False, is_steady, [[0, 0, 0]] * 40, 7, [0] * 20000)

    def test_wrong_arguments_and_values(self):
        for hue in NOT_HUES:
            self.refused(BadNumber(), is_steady, [[0], [1]], hue, None)
        self.judges_not(ODD_VALUES, is_steady, [[0], [1], [2], [3]], 0)
        self.judges_not(spoiled([0, 1, 2]), is_steady, [[0], [1], [2]], 0)
        self.judges_not(([1, 0], [0, 0], (0, 2, 1), [1, 1, 2]), is_steady, [[0], [0], [0]], 1)

    def test_choices_of_small_tables(self):
        for table in TABLES:
            columns = [len(table[0])] if table else [1, 2, 3]
            for d in columns:
                for bound in (1, 2, 3, 4, 200):
                    bounds = [bound] * 2 ** d
                    self.gives(choice_by_trial(table, bounds), steady_choice, table, bounds)
                bounds = [1 + (c * 3) % 4 for c in range(2 ** d)]
                self.gives(choice_by_trial(table, bounds), steady_choice, tuple(table), tuple(bounds))

    def test_exactly_as_many_rows_as_the_bound_and_one_more(self):
        rising = [[i] for i in range(40)]
        self.gives(None, steady_choice, rising, [40, 1])
        self.gives((0, list(range(40))), steady_choice, rising, [39, 1])
        self.gives((0, [0, 1]), steady_choice, bounds=(1, 1), table=rising)
        falling = [[-i] for i in range(40)]
        self.gives(None, steady_choice, falling, [1, 40])
        self.gives((1, list(range(40))), steady_choice, falling, [1, 39])
        equal = [[0, 0, 0]] * 40
        self.gives((7, list(range(40))), steady_choice, equal, [1] * 7 + [39])
        self.gives(None, steady_choice, equal, [1] * 7 + [40])
        self.gives((0, [1, 2]), steady_choice, [[5], [1], [2], [0], [3]], [1, 4])
        self.gives((0, [1, 2, 4]), steady_choice, [[5], [1], [2], [0], [3]], [2, 2])

    def test_the_table_without_rows(self):
        for many in (2, 4, 8):
            self.gives(None, steady_choice, [], [1] * many)
            self.gives(None, steady_choice, (), (200,) * many)
        for many in (0, 1, 3, 5, 6, 7, 9):
            self.refused(BadBounds(None), steady_choice, [], [0] * many)
        for many in (2, 4, 8):
            self.refused(BadBounds(1), steady_choice, [], [1, 0] * (many // 2))

    def test_wrong_bounds(self):
        for columns in (1, 2, 3):
            table = [[0] * columns] * 2
            for many in range(11):
                if many != 2 ** columns:
                    self.refused(BadBounds(None), steady_choice, table, [1] * many)
                    self.refused(BadBounds(None), steady_choice, table, (None,) * many)
            for value in NOT_SEQUENCES:
                self.refused(BadBounds(None), steady_choice, table, value)
            for member in NOT_INTEGERS + (0, -1, 201, HUGE, -HUGE):
                self.refused(BadBounds(0), steady_choice, table, [member] * 2 ** columns)
                self.refused(BadBounds(1), steady_choice, table, [1, member] * 2 ** (columns - 1))


class BestTableTest(ProgramTest):

    def test_the_example(self):
        self.gives([[1], [0], [3], [2]], best_table, [2, 2])
        self.gives([[1], [0], [3], [2]], best_table, bounds=(2, 2))

    def check_best(self, bounds):
        table = best_table(bounds)
        rows = box_rows(bounds)
        columns = {2: 1, 4: 2, 8: 3}[len(bounds)]
        self.assertEqual((type(table), len(table)), (list, len(rows)))
        for x, entries in zip(rows, table):
            expected = []
            for e in range(columns):
                number = 0
                for c, bound in enumerate(bounds):
                    turned = bin(c)[2:].zfill(columns)[e] == "1"
                    number = number * bound + (bound - 1 - x[c] if turned else x[c])
                expected.append(number)
            self.assertEqual(shown(entries), shown(expected))
        self.gives(None, steady_choice, table, bounds)

    def test_small_bounds(self):
        for bounds in product((1, 2, 3), repeat=2):
            self.check_best(bounds)
        for bounds in product((1, 2), repeat=4):
            self.check_best(list(bounds))
        for bounds in ([1] * 8, [2] * 5 + [1] * 3, [1, 2] * 3 + [3, 1], [1] * 7 + [5], [3, 1, 1, 3, 1, 1, 1, 4]):
            self.check_best(bounds)
        self.gives([[0]], best_table, [1, 1])
        self.gives([[0, 0, 0]], best_table, [1] * 8)
        self.gives([[i] for i in range(7)], best_table, [7, 1])
        self.gives([[6 - i] for i in range(7)], best_table, [1, 7])

    def test_a_best_table_is_as_long_as_can_be(self):
        # A further row makes a steady choice of more rows than the bound.
        for bounds in ([2, 2], [3, 2], [2, 3]):
            table = best_table(bounds)
            for last in range(-1, 7):
                self.assertIsNotNone(steady_choice([[2 * row[0]] for row in table] + [[last * 2 - 1]], bounds))

    def test_exactly_40_rows_and_more(self):
        for bounds in ([40, 1], [1, 40], (5, 8), [2, 2, 10, 1], [1, 1, 1, 1, 2, 2, 2, 5], (40,) + (1,) * 7):
            self.assertEqual(len(best_table(bounds)), 40)
            self.check_best(bounds)
        for bounds in ([41, 1], (200, 200), [6, 7], [2, 3, 7, 1], [200] * 8, [2] * 6 + [1, 1], [1] * 7 + [41]):
            self.refused(TooMany(40), best_table, bounds)

    def test_wrong_bounds(self):
        for many in range(12):
            if many not in (2, 4, 8):
                self.refused(BadBounds(None), best_table, [1] * many)
                self.refused(BadBounds(None), best_table, (None,) * many)
                self.refused(BadBounds(None), best_table, [200] * many)
        for bounds, bad_at in WRONG_BOUNDS:
            self.refused(BadBounds(bad_at if type(bounds) in (list, tuple) and len(bounds) in (2, 4, 8) else None),
                         best_table, bounds)
        for member in NOT_INTEGERS + (0, -1, 201, HUGE, -HUGE):
            self.refused(BadBounds(1), best_table, [200, member, None, 200])


class CallsInBetweenTest(ProgramTest):

    def answers(self):
        return shown([
            pattern([1, 2], [2, 2]), table_hues([[1], [2], [1]]), is_steady([[1], [2]], 0, [0, 1]),
            steady_choice([[1], [2], [3]], [2, 2]), best_table([2, 2]),
        ])

    def test_equal_calls_give_equal_answers(self):
        before = self.answers()
        for table in TABLES:
            table_hues(table)
        best_table([3, 2, 2, 1])
        self.assertEqual(self.answers(), before)

    def test_a_later_change(self):
        before = self.answers()
        table = best_table([2, 2])
        table[0].append(5)
        table.clear()
        table_hues([[1], [2], [1]]).clear()
        steady_choice([[1], [2], [3]], [2, 2])[1].clear()
        self.assertEqual(self.answers(), before)
        rows = [[1], [2]]
        self.gives([0], table_hues, rows)
        rows[1][0] = 0
        self.gives([1], table_hues, rows)


if __name__ == "__main__":
    unittest.main()
