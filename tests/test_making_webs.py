"""The functions of huewalks.webs that make webs."""

import unittest

from huewalks.errors import BadNumber, BadThings, BadWeb, TooMany
from huewalks.webs import Web, beside_web, part_web, path_web, ring_web, row_web, two_way_web
from helpers import HUGE, NOT_INTEGERS, NOT_SEQUENCES, NOT_WEBS, ProgramTest, all_small_webs


class NamedWebsTest(ProgramTest):

    def test_rows(self):
        self.gives(Web(0), row_web, 0)
        self.gives(Web(1), row_web, 1)
        self.gives(Web(4, [(0, 1), (0, 2), (0, 3), (1, 2), (1, 3), (2, 3)]), row_web, places=4)

    def test_the_longest_row(self):
        web = row_web(63)
        self.assertEqual((web.places, len(web.arrows)), (63, 1953))
        self.assertEqual(web.arrows, [(i, j) for i in range(63) for j in range(i + 1, 63)])
        for places in (64, 65, 1000, 2000):
            self.refused(TooMany(2000), row_web, places)

    def test_paths(self):
        self.gives(Web(0), path_web, 0)
        self.gives(Web(1), path_web, 1)
        self.gives(Web(2, [(0, 1)]), path_web, 2)
        self.gives(Web(4, [(0, 1), (1, 2), (2, 3)]), path_web, places=4)
        self.assertEqual(len(path_web(2000).arrows), 1999)

    def test_rings(self):
        self.gives(Web(0), ring_web, 0)
        self.gives(Web(1, [(0, 0)]), ring_web, 1)
        self.gives(Web(2, [(0, 1), (1, 0)]), ring_web, 2)
        self.gives(Web(4, [(0, 1), (1, 2), (2, 3), (3, 0)]), ring_web, places=4)
        self.assertEqual(len(ring_web(2000).arrows), 2000)
        self.assertIs((1999, 0) in ring_web(2000), True)

    def test_numbers_of_places(self):
        for places in NOT_INTEGERS + (-1, 2001, HUGE, -HUGE):
            for make in (row_web, path_web, ring_web):
                self.refused(BadNumber(), make, places)


class TwoWayWebTest(ProgramTest):

    def test_both_arrows_of_each_tie(self):
        web = Web(4, [(0, 1), (1, 0), (1, 3), (3, 1)])
        for ties in ([(0, 1), (3, 1)], ([1, 0], [1, 3]), [(0, 1), (1, 0), [1, 3], (1, 3), (3, 1)]):
            self.gives(web, two_way_web, 4, ties)
            self.gives(web, two_way_web, ties=ties, places=4)
        self.gives(Web(3), two_way_web, 3, [])
        self.gives(Web(0), two_way_web, 0, ())

    def test_numbers_of_places(self):
        self.assertEqual(two_way_web(2000, []).places, 2000)
        for places in NOT_INTEGERS + (-1, 2001, HUGE):
            self.refused(BadNumber(), two_way_web, places, None)

    def test_wrong_ties(self):
        for ties in NOT_SEQUENCES:
            self.refused(BadWeb(None), two_way_web, 2, ties)
        for tie in NOT_SEQUENCES + ([], (0,), (0, 1, 2), (0, 0), [2, 2]):
            self.refused(BadWeb(1), two_way_web, 3, [(0, 1), tie, None])
        for place in NOT_INTEGERS + (-1, 3, HUGE, -HUGE):
            self.refused(BadWeb(0), two_way_web, 3, [(place, 2), (1, 1)])
            self.refused(BadWeb(2), two_way_web, 3, [(0, 1), (1, 0), (2, place)])

    def test_2000_arrows_and_more(self):
        ties = [(u, v) for u in range(46) for v in range(u)][:1001]
        web = two_way_web(46, ties[:1000] + [(v, u) for u, v in ties[:1000]])
        self.assertEqual(len(web.arrows), 2000)
        self.refused(TooMany(2000), two_way_web, 46, ties)
        self.refused(TooMany(2000), two_way_web, 46, ties + [(v, u) for u, v in ties])
        self.refused(BadWeb(1001), two_way_web, 46, ties + [(3, 3)])
        self.refused(BadWeb(1002), two_way_web, 46, ties + ties[:1] + [(3, 46)])


class BesideWebTest(ProgramTest):

    def test_the_second_web_behind_the_first(self):
        first = Web(2, [(0, 1), (1, 1)])
        second = Web(3, [(2, 0), (0, 1)])
        self.gives(Web(5, [(0, 1), (1, 1), (4, 2), (2, 3)]), beside_web, first, second)
        self.gives(Web(5, [(2, 0), (0, 1), (3, 4), (4, 4)]), beside_web, second=first, first=second)
        self.gives(second, beside_web, Web(0), second)
        self.gives(second, beside_web, second, Web(0))
        self.gives(Web(4, [(0, 1), (1, 1), (2, 3), (3, 3)]), beside_web, first, first)

    def test_what_is_no_web(self):
        for value in NOT_WEBS:
            self.refused(BadWeb(None), beside_web, value, Web(1))
            self.refused(BadWeb(None), beside_web, Web(2000), value)

    def test_2000_places_and_more(self):
        self.assertEqual(beside_web(Web(1500), Web(500)).places, 2000)
        self.refused(TooMany(2000), beside_web, Web(1500), Web(501))
        self.refused(TooMany(2000), beside_web, Web(2000), Web(1, [(0, 0)]))

    def test_2000_arrows_and_more(self):
        first = row_web(63)
        self.assertEqual(len(beside_web(first, path_web(48)).arrows), 2000)
        self.refused(TooMany(2000), beside_web, first, path_web(49))
        self.refused(TooMany(2000), beside_web, path_web(49), first)


class PartWebTest(ProgramTest):

    def test_the_told_places_in_the_told_order(self):
        web = Web(4, [(0, 1), (1, 2), (2, 0), (3, 3), (3, 1)])
        self.gives(Web(3, [(0, 0), (0, 2), (2, 1)]), part_web, web, [3, 2, 1])
        self.gives(Web(2, [(0, 1)]), part_web, places=(2, 0), web=web)
        self.gives(Web(1, [(0, 0)]), part_web, web, [3])
        self.gives(Web(0), part_web, web, [])
        self.gives(Web(0), part_web, Web(0), ())
        self.gives(web, part_web, web, [0, 1, 2, 3])

    def test_all_small_webs(self):
        for web in all_small_webs(3)[::3]:
            for places in ([], [0], [2, 0], [1, 2], [2, 1, 0], [1, 0, 2]):
                if any(place >= web.places for place in places):
                    continue
                count = len(places)
                pairs = [(i, j) for i in range(count) for j in range(count)]
                arrows = [(i, j) for i, j in pairs if (places[i], places[j]) in web.arrows]
                self.assertEqual(part_web(web, places), Web(count, arrows))

    def test_all_of_2000_places(self):
        web = ring_web(2000)
        self.assertEqual(part_web(web, list(range(2000))), web)
        self.assertEqual(part_web(web, list(range(2000))[::-1]), web.turned())

    def test_wrong_arguments(self):
        for value in NOT_WEBS:
            self.refused(BadWeb(None), part_web, value, None)
        web = Web(3, [(0, 1)])
        for places in NOT_SEQUENCES:
            self.refused(BadThings(None), part_web, web, places)
        for place in NOT_INTEGERS + (-1, 3, HUGE, -HUGE):
            self.refused(BadThings(1), part_web, web, [0, place, 0])
        self.refused(BadThings(1), part_web, web, (0, 0, 7))
        self.refused(BadThings(3), part_web, web, [2, 1, 0, 1, 1])
        self.refused(BadThings(0), part_web, Web(0), [0])

    def test_a_later_change_of_the_places(self):
        places = [1, 0]
        web = part_web(Web(2, [(0, 1)]), places)
        places.append(1)
        self.assertEqual(web, Web(2, [(1, 0)]))


if __name__ == "__main__":
    unittest.main()
