"""Hueings: points 5, 6 and 12 and the last functions of huewalks.walks."""

import unittest
from itertools import product

from huewalks.errors import BadHueing, BadNumber, BadWeb, TooMany
from huewalks.walks import all_walks, hue_counts, hue_table, hueing_by_number, is_hueing
from huewalks.webs import Web, path_web, ring_web, row_web
from helpers import HUGE, NOT_INTEGERS, NOT_SEQUENCES, NOT_SPANS, NOT_WEBS, ProgramTest, hub_web

NOT_MANIES = NOT_INTEGERS + (0, -1, 9, HUGE, -HUGE)

# The row of 4 places has 4 walks of 3 places.
ROW = row_web(4)


class IsHueingTest(ProgramTest):

    def test_all_small_values(self):
        web = path_web(3)
        for hues in product(range(-1, 4), repeat=2):
            for many in range(1, 4):
                right = all(0 <= hue < many for hue in hues)
                self.gives(right, is_hueing, web, 2, many, hues)
                self.gives(right, is_hueing, web, 2, many, list(hues))

    def test_by_name(self):
        self.gives(True, is_hueing, hues=[0, 1, 1, 0], many=2, span=3, web=ROW)
        self.gives(False, is_hueing, hues=[0, 1, 2, 0], many=2, span=3, web=ROW)

    def test_the_length(self):
        for length in range(7):
            self.gives(length == 4, is_hueing, ROW, 3, 1, [0] * length)
            self.gives(length == 6, is_hueing, ROW, 2, 1, [0] * length)

    def test_a_web_without_walks_has_one_hueing(self):
        for web in (Web(0), Web(5), path_web(5)):
            self.gives(True, is_hueing, web, 6, 8, [])
            self.gives(True, is_hueing, web, 6, 1, ())
            self.gives(False, is_hueing, web, 6, 8, [0])

    def test_spans_2_and_6_and_8_hues(self):
        self.gives(True, is_hueing, ring_web(3), 2, 8, [7, 0, 3])
        self.gives(True, is_hueing, ring_web(3), 6, 8, [7, 0, 3])
        self.gives(False, is_hueing, ring_web(3), 6, 8, [7, 8, 3])
        self.gives(False, is_hueing, ring_web(3), 6, 7, [7, 0, 3])

    def test_any_value(self):
        for value in NOT_SEQUENCES + ([0, 0, 0, [0]], [[0, 0, 0, 0]], ((0,), 0, 0, 0), {0: 0, 1: 0, 2: 0, 3: 0}):
            self.gives(False, is_hueing, ROW, 3, 2, value)
        for member in NOT_INTEGERS + (-1, 2, HUGE, -HUGE):
            self.gives(False, is_hueing, ROW, 3, 2, [0, 0, member, 0])
            self.gives(False, is_hueing, ROW, 3, 2, (0, 0, 0, member))
        for value in NOT_SEQUENCES:
            self.gives(False, is_hueing, Web(0), 2, 1, value)

    def test_the_arguments_before_go_first(self):
        for web in NOT_WEBS:
            self.refused(BadWeb(None), is_hueing, web, 1, 0, None)
        for span in NOT_SPANS:
            self.refused(BadNumber(), is_hueing, hub_web(69, 29), span, 1, None)
        self.refused(TooMany(2000), is_hueing, hub_web(69, 29), 3, 0, None)
        for many in NOT_MANIES:
            self.refused(BadNumber(), is_hueing, ROW, 3, many, None)


class SpanTest(ProgramTest):
    """The limit on walks directly behind the check of the span."""

    def calls(self, web, span, hues):
        yield (is_hueing, web, span, 1, hues)
        yield (hue_table, web, span, hues)
        yield (hue_counts, web, span, 1, hues)
        yield (hueing_by_number, web, span, 1, 0)

    def test_2000_walks(self):
        for web, span in ((ring_web(2000), 2), (ring_web(2000), 6), (hub_web(40, 50), 3)):
            for call in self.calls(web, span, [0] * 2000):
                answer, error = self.called(call[0], call[1:], {})
                self.assertIsNone(error)
                self.assertNotEqual(answer, False)
        self.assertEqual(len(hue_table(hub_web(40, 50), 3, [7] * 2000)), 2000)

    def test_2001_walks(self):
        for call in self.calls(hub_web(69, 29), 3, [0] * 2001):
            self.refused(TooMany(2000), *call)

    def test_a_shorter_length_alone_has_too_many(self):
        for span in (4, 5, 6):
            for call in self.calls(hub_web(69, 29), span, []):
                self.refused(TooMany(2000), *call)
            for call in self.calls(hub_web(40, 50), span, []):
                self.assertIsNone(self.called(call[0], call[1:], {})[1])

    def test_a_longer_length_does_not_count(self):
        for call in self.calls(hub_web(69, 29), 2, [0] * 98):
            self.assertIsNone(self.called(call[0], call[1:], {})[1])

    def test_wrong_spans_go_before_the_limit_and_what_stands_behind(self):
        for span in NOT_SPANS:
            for call in self.calls(hub_web(69, 29), span, None):
                self.refused(BadNumber(), *call)
        for span in (2, 6):
            self.gives(True, is_hueing, Web(1), span, 1, [])

    def test_the_limit_goes_before_what_stands_behind(self):
        web = hub_web(69, 29)
        self.refused(TooMany(2000), hue_table, web, 3, None)
        self.refused(TooMany(2000), hue_counts, web, 3, 0, None)
        self.refused(TooMany(2000), hueing_by_number, web, 3, 0, None)

    def test_wrong_webs_go_first(self):
        for web in NOT_WEBS:
            for call in self.calls(web, 1, None):
                self.refused(BadWeb(None), *call)


class HuesTest(ProgramTest):
    """The check of hues in hue_table and hue_counts."""

    def wrong(self, bad_at, hues):
        self.refused(BadHueing(bad_at), hue_table, ROW, 3, hues)
        for many in (2, 8):
            self.refused(BadHueing(bad_at), hue_counts, ROW, 3, many, hues)

    def test_no_sequence_or_another_length(self):
        for hues in NOT_SEQUENCES + ([], (0, 0, 0), [0] * 5, [None] * 5, (8, 8, 8)):
            self.wrong(None, hues)

    def test_the_first_wrong_hue(self):
        for hue in NOT_INTEGERS + (-1, -8, 8, 9, HUGE, -HUGE):
            self.wrong(0, (hue, 0, 0, 0))
            self.wrong(2, [0, 1, hue, None])
            self.wrong(3, [0, 1, 1, hue])

    def test_the_number_of_hues(self):
        for many in range(1, 9):
            self.gives([3] + [0] * (many - 2) + [1] if many > 1 else [4], hue_counts, ROW, 3, many,
                       [0, 0, 0, many - 1])
            self.refused(BadHueing(1), hue_counts, ROW, 3, many, [0, many, 0, 9])
        self.gives({(0, 1, 2): 7, (0, 1, 3): 0, (0, 2, 3): 7, (1, 2, 3): 6}, hue_table, ROW, 3, [7, 0, 7, 6])

    def test_many_goes_before_hues(self):
        for many in NOT_MANIES:
            self.refused(BadNumber(), hue_counts, ROW, 3, many, None)


class HueTableTest(ProgramTest):

    def test_the_walks_in_ascending_order(self):
        self.gives({(0, 1): 2, (0, 2): 0, (1, 2): 1}, hue_table, row_web(3), 2, (2, 0, 1))
        self.gives({(0, 1, 0): 5, (1, 0, 1): 4}, hue_table, hues=[5, 4], span=3, web=ring_web(2))
        self.gives({}, hue_table, Web(0), 2, [])
        self.gives({}, hue_table, path_web(5), 6, ())

    def test_each_span(self):
        web = Web(12, [(11, 2), (2, 10), (2, 9), (10, 11), (9, 11)])
        for span in range(2, 7):
            walks = all_walks(web, span)
            hues = [(i * 5) % 8 for i in range(len(walks))]
            self.gives({walk: hues[i] for i, walk in enumerate(walks)}, hue_table, web, span, hues)

    def test_a_later_change(self):
        hues = [1, 2]
        web = path_web(3)
        answer = hue_table(web, 2, hues)
        hues[0] = 7
        self.assertEqual(answer, {(0, 1): 1, (1, 2): 2})
        answer.clear()
        self.gives({(0, 1): 7, (1, 2): 2}, hue_table, web, 2, hues)


class HueCountsTest(ProgramTest):

    def test_counts(self):
        self.gives([2, 0, 2], hue_counts, ROW, 3, 3, [2, 0, 0, 2])
        self.gives([0, 4, 0, 0, 0, 0, 0, 0], hue_counts, hues=(1, 1, 1, 1), many=8, span=3, web=ROW)
        self.gives([0, 0, 0], hue_counts, Web(0), 6, 3, [])
        self.gives([2000], hue_counts, ring_web(2000), 6, 1, [0] * 2000)

    def test_a_later_change(self):
        hue_counts(ROW, 3, 2, [0, 0, 1, 1]).append(5)
        self.gives([2, 2], hue_counts, ROW, 3, 2, [0, 0, 1, 1])


class HueingByNumberTest(ProgramTest):

    def test_all_hueings_in_ascending_order(self):
        for web, span in ((path_web(4), 2), (ring_web(2), 6), (Web(3), 2), (path_web(3), 3)):
            walks = len(all_walks(web, span))
            for many in (1, 2, 3, 8):
                hueings = [list(hues) for hues in product(range(many), repeat=walks)]
                for number, hues in enumerate(hueings):
                    self.gives(hues, hueing_by_number, web, span, many, number)
                self.refused(BadNumber(), hueing_by_number, web, span, many, len(hueings))
                self.refused(BadNumber(), hueing_by_number, web, span, many, -1)

    def test_by_name(self):
        self.gives([0, 0, 0, 1], hueing_by_number, number=1, many=2, span=3, web=ROW)
        self.gives([2, 0, 1, 2], hueing_by_number, ROW, 3, 3, 59)

    def test_the_power_0_is_1(self):
        self.gives([], hueing_by_number, Web(0), 2, 8, 0)
        self.refused(BadNumber(), hueing_by_number, Web(0), 2, 8, 1)

    def test_one_hue(self):
        self.gives([0, 0, 0, 0], hueing_by_number, ROW, 3, 1, 0)
        for number in (1, 4, HUGE):
            self.refused(BadNumber(), hueing_by_number, ROW, 3, 1, number)

    def test_great_numbers(self):
        web = ring_web(2000)
        last = 8 ** 2000 - 1
        self.gives([7] * 2000, hueing_by_number, web, 6, 8, last)
        self.gives([7] * 1999 + [6], hueing_by_number, web, 2, 8, last - 1)
        self.gives([0] * 1999 + [1], hueing_by_number, web, 2, 8, 1)
        self.gives([1] + [0] * 1999, hueing_by_number, web, 2, 8, 8 ** 1999)
        for number in (last + 1, 8 ** 2000 * 3, 10 ** 5000, -1, -last):
            self.refused(BadNumber(), hueing_by_number, web, 2, 8, number)

    def test_wrong_numbers(self):
        for many in NOT_MANIES:
            self.refused(BadNumber(), hueing_by_number, ROW, 3, many, 0)
        for number in NOT_INTEGERS + (16, HUGE, -HUGE):
            self.refused(BadNumber(), hueing_by_number, ROW, 3, 2, number)
            self.refused(BadNumber(), hueing_by_number, Web(0), 3, 2, 1 if number == 16 else number)

    def test_a_later_change(self):
        hueing_by_number(ROW, 3, 2, 5).clear()
        self.gives([0, 1, 0, 1], hueing_by_number, ROW, 3, 2, 5)


if __name__ == "__main__":
    unittest.main()
