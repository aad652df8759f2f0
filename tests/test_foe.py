"""Rows whose places come one by one: points 3 to 8, 42 and 43, and huewalks.foe."""

import unittest
from itertools import combinations, product

from huewalks.closedlots import tower
from huewalks.errors import BadBounds, BadHueing, BadNumber, BadWalk, Ended, RowTooLong, TooMany
from huewalks.foe import Foe, Watch
from huewalks.huelay import told_hue
from huewalks.roads import depths, keeps_bounds, long_road
from huewalks.rowcase import row_hueing, row_limit
from huewalks.walks import all_walks
from huewalks.webs import row_web
from helpers import (
    HUGE, NOT_INTEGERS, NOT_SEQUENCES, NOT_SPANS, TOWERS_OF_200, TOWERS_OF_MORE, WRONG_BOUNDS, ProgramTest, shown,
)

# For each span the most places of a row that has no more than 2000 walks of any number of places up to the span.
MOST_ROW_PLACES = {2: 63, 3: 23, 4: 16, 5: 13, 6: 13}

SMALL = (
    (2, [1]), (2, [5]), (2, (2, 3)), (2, [2, 2, 2]), (3, [1, 1]), (3, (4,)), (3, [2, 2]), (3, [3, 2]), (4, [2]),
    (4, [2, 2]), (5, [1, 2]), (5, (3,)), (6, [2, 1]), (6, [2, 2]),
)


def new_walks(places, span):
    """The walks of the row of so many places that end in its last place."""
    return [walk + (places - 1,) for walk in combinations(range(places - 1), span - 1)]


def state(row):
    """All that a foe or a watch answers without changing."""
    told = [len(row), row.hues()]
    if isinstance(row, Foe):
        return shown(told + [row.room])
    return shown(told + [row.ended, [row.deepest(hue) for hue in range(1)]])


class RowTest(ProgramTest):

    def refused_and_unchanged(self, expected, row, call, *args):
        """The call is refused and changes nothing."""
        before = state(row)
        self.refused(expected, call, *args)
        self.assertEqual(state(row), before)


class FoeTest(RowTest):

    def test_small_towers_up_to_the_row_limit_and_one_place_beyond(self):
        for span, bounds in SMALL:
            foe = Foe(span, bounds)
            limit = len(tower(span, bounds))
            for places in range(1, limit + 1):
                walks = new_walks(places, span)
                told = foe.come()
                self.assertEqual(shown(told), shown([told_hue(span, bounds, walk) for walk in walks]))
                self.assertEqual((len(foe), foe.room), (places, limit - places))
                hues = row_hueing(places, span, bounds)
                self.assertEqual(shown(foe.hues()), shown(hues))
                self.assertIs(keeps_bounds(row_web(places), span, bounds, foe.hues()), True)
            for walk, hue in zip(all_walks(row_web(limit), span), foe.hues()):
                self.gives(hue, foe.hue_of, walk)
                self.gives(hue, foe.hue_of, walk=list(walk))
            for _ in range(2):
                self.refused_and_unchanged(RowTooLong(limit), foe, foe.come)

    def test_before_the_first_place(self):
        for span in range(2, 7):
            foe = Foe(bounds=[2, 2], span=span)
            self.assertEqual((len(foe), foe.room, foe.hues()), (0, len(tower(span, [2, 2])), []))
            self.assertIs(type(foe.room), int)
            self.refused_and_unchanged(BadWalk(0), foe, foe.hue_of, [0] * span)
            self.assertEqual(foe.come(), [])

    def test_the_limit_on_walks_goes_before_the_row_limit(self):
        for span, bounds in ((2, [8, 8]), (2, [64]), (3, [24]), (3, [2] * 4), (4, [2, 4]), (5, [20]), (6, [20])):
            foe = Foe(span, bounds)
            most = MOST_ROW_PLACES[span]
            for places in range(most):
                self.assertEqual(len(foe.come()), len(new_walks(places + 1, span)))
            self.assertEqual(foe.room, len(tower(span, bounds)) - most)
            self.assertEqual(shown(foe.hues()), shown(row_hueing(most, span, bounds)))
            for _ in range(2):
                self.refused_and_unchanged(TooMany(2000), foe, foe.come)

    def test_the_row_limit_goes_before_the_limit_on_walks(self):
        for span, bounds in ((2, [7, 9]), (2, [63]), (3, [22]), (4, [14]), (5, [10])):
            foe = Foe(span, bounds)
            limit = len(tower(span, bounds))
            self.assertIn(limit, (MOST_ROW_PLACES[span], MOST_ROW_PLACES[span] - 1))
            for _ in range(limit):
                foe.come()
            self.refused_and_unchanged(RowTooLong(limit), foe, foe.come)

    def test_the_tower(self):
        for span, bounds in TOWERS_OF_200:
            foe = Foe(span, bounds)
            self.assertEqual((foe.room, foe.come(), foe.room), (200, [], 199))
        for span, bounds in TOWERS_OF_MORE:
            self.refused(TooMany(200), Foe, span, bounds)

    def test_wrong_arguments(self):
        for span in NOT_SPANS:
            self.refused(BadNumber(), Foe, span, None)
            self.refused(BadNumber(), Watch, span, None)
        for bounds, bad_at in WRONG_BOUNDS:
            self.refused(BadBounds(bad_at), Foe, 6, bounds)
            self.refused(BadBounds(bad_at), Watch, 6, bounds)

    def test_wrong_walks(self):
        foe = Foe(3, [2, 2])
        for _ in range(4):
            foe.come()
        for walk in NOT_SEQUENCES + ([], [0, 1], (0, 1, 2, 3), [None] * 4):
            self.refused_and_unchanged(BadWalk(None), foe, foe.hue_of, walk)
        for place in NOT_INTEGERS + (-1, 4, HUGE, -HUGE):
            self.refused_and_unchanged(BadWalk(0), foe, foe.hue_of, [place, 1, 2])
            self.refused_and_unchanged(BadWalk(1), foe, foe.hue_of, (0, place, None))
        self.refused_and_unchanged(BadWalk(1), foe, foe.hue_of, [1, 0, 2])
        self.refused_and_unchanged(BadWalk(2), foe, foe.hue_of, [0, 1, 1])
        foe.come()
        self.gives(told_hue(3, [2, 2], (0, 1, 4)), foe.hue_of, [0, 1, 4])

    def test_objects_share_no_state(self):
        bounds = [2, 2]
        first, second = Foe(3, bounds), Foe(3, bounds)
        bounds[0] = 1
        bounds.append(9)
        for _ in range(4):
            first.come()
        self.assertEqual((len(first), len(second), second.room), (4, 0, 6))
        first.hues().clear()
        self.assertEqual(first.hues(), row_hueing(4, 3, [2, 2]))
        first.come().clear()
        for _ in range(5):
            second.come()
        self.assertEqual(first.hues(), second.hues())
        self.assertEqual(first.hues(), row_hueing(5, 3, [2, 2]))


class WatchTest(RowTest):

    def watched(self, span, bounds, pick):
        """Tells hues until the watch ends; each answer is compared with the whole row."""
        watch = Watch(span, bounds)
        table = {}
        found = None
        while found is None:
            places = len(watch) + 1
            for walk in new_walks(places, span):
                table[walk] = pick(walk)
            told = [table[walk] for walk in new_walks(places, span)]
            found = watch.come(told if places % 2 else tuple(told))
            hues = [table[walk] for walk in all_walks(row_web(places), span)]
            self.assertEqual(shown(found), shown(long_road(row_web(places), span, bounds, hues)))
            self.assertEqual(shown(watch.hues()), shown(hues))
            self.assertEqual((len(watch), watch.ended), (places, found is not None))
            for hue in range(len(bounds)):
                deepest = max(depths(row_web(places), span, hues, hue, 200), default=0)
                self.assertEqual(shown(watch.deepest(hue)), shown(deepest))
        return watch

    def test_it_ends_with_the_first_road_that_is_too_long(self):
        for span, bounds in SMALL:
            many = len(bounds)
            for step in range(4):
                watch = self.watched(span, bounds, lambda walk: sum(walk) * step // 2 % many)
                self.assertLessEqual(len(watch), row_limit(span, bounds) + 1)
                self.refused_and_unchanged(Ended(), watch, watch.come, None)
                self.refused_and_unchanged(Ended(), watch, watch.come, [0] * len(new_walks(len(watch) + 1, span)))

    def test_told_the_hues_of_a_foe_it_goes_on_to_the_row_limit(self):
        for span, bounds in SMALL:
            foe, watch = Foe(span, bounds), Watch(span, bounds)
            limit = len(tower(span, bounds))
            for _ in range(limit):
                self.assertIsNone(watch.come(foe.come()))
            self.assertEqual((len(watch), watch.ended, watch.hues()), (limit, False, foe.hues()))
            for hue, bound in enumerate(bounds):
                self.assertLess(watch.deepest(hue), bound)
            found = watch.come([len(bounds) - 1] * len(new_walks(limit + 1, span)))
            self.assertEqual((type(found), watch.ended, len(watch)), (tuple, True, limit + 1))
            self.assertEqual(shown(found), shown(long_road(row_web(limit + 1), span, bounds, watch.hues())))

    def test_all_hueings_of_short_rows(self):
        for span, bounds in ((2, [2, 1]), (2, [3]), (3, [1, 1]), (3, [2]), (2, [2, 2])):
            for choice in product(range(len(bounds)), repeat=6):
                self.watched(span, bounds, lambda walk: choice[sum(walk) * 7 % 6])

    def test_it_ends_at_once(self):
        watch = Watch(2, [1, 5])
        self.assertIsNone(watch.come([]))
        self.assertEqual(watch.come([0]), (0, (0, 1)))
        self.assertEqual((len(watch), watch.ended, watch.hues(), watch.deepest(0), watch.deepest(1)), (2, True, [0], 1, 0))
        self.refused_and_unchanged(Ended(), watch, watch.come, [0, 0])

    def test_it_does_not_use_the_tower(self):
        for span, bounds in TOWERS_OF_MORE:
            watch = Watch(span, bounds)
            self.assertIsNone(watch.come(hues=()))
            self.assertEqual((len(watch), watch.ended, watch.hues()), (1, False, []))

    def test_the_limit_on_walks(self):
        for span, most in MOST_ROW_PLACES.items():
            watch = Watch(span, [200])
            for places in range(1, most + 1):
                self.assertIsNone(watch.come([0] * len(new_walks(places, span))))
            self.assertEqual(watch.deepest(0), most - span + 1)
            for hues in (None, [], [True], [0] * len(new_walks(most + 1, span))):
                self.refused_and_unchanged(TooMany(2000), watch, watch.come, hues)

    def test_an_ended_watch_of_the_most_places(self):
        watch = Watch(3, [21])
        for places in range(1, 24):
            found = watch.come([0] * len(new_walks(places, 3)))
        self.assertEqual((found, watch.ended, watch.deepest(0)), ((0, tuple(range(23))), True, 21))
        self.refused_and_unchanged(Ended(), watch, watch.come, None)

    def test_wrong_hues(self):
        watch = Watch(2, [2, 3])
        for hues in NOT_SEQUENCES + ([0], (None,), [True]):
            self.refused_and_unchanged(BadHueing(None), watch, watch.come, hues)
        watch.come([])
        watch.come((1,))
        for hues in NOT_SEQUENCES + ([], [0], [0, 1, 1], (None,) * 3):
            self.refused_and_unchanged(BadHueing(None), watch, watch.come, hues)
        for hue in NOT_INTEGERS + (-1, 2, HUGE, -HUGE):
            self.refused_and_unchanged(BadHueing(0), watch, watch.come, [hue, None])
            self.refused_and_unchanged(BadHueing(1), watch, watch.come, (1, hue))
        self.assertIsNone(watch.come([0, 1]))
        self.assertEqual(watch.hues(), [1, 0, 1])

    def test_wrong_numbers(self):
        for bounds in ([2], [2] * 8):
            watch = Watch(2, bounds)
            for hue in NOT_INTEGERS + (-1, len(bounds), HUGE, -HUGE):
                self.refused_and_unchanged(BadNumber(), watch, watch.deepest, hue)
            self.gives(0, watch.deepest, hue=len(bounds) - 1)

    def test_objects_share_no_state(self):
        bounds, hues = [3, 3], [0]
        first, second = Watch(2, bounds), Watch(2, bounds)
        bounds[0] = 1
        bounds.append(4)
        first.come([])
        first.come(hues)
        hues[0] = 1
        first.hues().clear()
        self.assertEqual((first.hues(), len(second), second.hues(), first.ended), ([0], 0, [], False))
        second.come([])
        second.come([1])
        self.assertEqual((first.hues(), second.hues()), ([0], [1]))
        self.refused(BadNumber(), first.deepest, 2)


if __name__ == "__main__":
    unittest.main()
