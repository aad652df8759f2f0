"""Webs: points 1 to 5 and 9, and the class Web of huewalks.webs."""

import unittest

from huewalks.errors import BadNumber, BadWeb, TooMany
from huewalks.webs import Web
from helpers import HUGE, NOT_INTEGERS, NOT_SEQUENCES, ProgramTest, all_small_webs, shown

NOT_PLACES_OF_3 = NOT_INTEGERS + (-1, -3, 3, 4, HUGE, -HUGE)

# 2001 unlike arrows between 50 places.
MANY_ARROWS = [(u, v) for u in range(50) for v in range(50)][:2001]


class WebTest(ProgramTest):

    def test_arrows_come_in_any_order_and_count_once(self):
        web = Web(3, [(1, 2), (0, 1), (1, 2), [2, 0], (0, 1)])
        self.assertEqual(shown(web.arrows), shown([(0, 1), (1, 2), (2, 0)]))
        self.assertEqual(shown(web.places), shown(3))

    def test_arguments_by_name_as_lists_and_as_tuples(self):
        arrows = [(0, 1), (2, 2)]
        for given in (arrows, tuple(arrows), [list(arrow) for arrow in arrows], ([0, 1], (2, 2))):
            self.gives(Web(3, arrows), Web, places=3, arrows=given)
            self.gives(Web(3, arrows), Web, 3, given)

    def test_no_arrows_by_default(self):
        self.gives(Web(4, []), Web, 4)
        self.assertEqual(Web(4).arrows, [])

    def test_no_places(self):
        web = Web(0)
        self.assertEqual(shown((web.places, web.arrows, len(web), list(web))), shown((0, [], 0, [])))
        self.refused(BadNumber(), web.out_of, 0)
        self.refused(BadWeb(0), Web, 0, [(0, 0)])

    def test_loops_and_two_way_arrows(self):
        web = Web(2, [(1, 1), (1, 0), (0, 1)])
        self.assertEqual(web.arrows, [(0, 1), (1, 0), (1, 1)])

    def test_arrows_ascend_as_integers(self):
        web = Web(12, [(10, 2), (9, 11), (9, 3), (2, 10)])
        self.assertEqual(web.arrows, [(2, 10), (9, 3), (9, 11), (10, 2)])

    def test_number_of_places(self):
        self.assertEqual(Web(2000).places, 2000)
        for places in NOT_INTEGERS + (-1, 2001, HUGE, -HUGE):
            self.refused(BadNumber(), Web, places)
            self.refused(BadNumber(), Web, places, None)

    def test_arrows_are_a_sequence(self):
        for arrows in NOT_SEQUENCES:
            self.refused(BadWeb(None), Web, 2, arrows)

    def test_each_arrow_is_a_sequence_of_two_places(self):
        wrong = NOT_SEQUENCES + ([], (0,), [0, 1, 2], (0, 1, None))
        for arrow in wrong:
            self.refused(BadWeb(0), Web, 3, [arrow])
            self.refused(BadWeb(2), Web, 3, ((0, 1), (0, 1), arrow, None, (3, 3)))
        for place in NOT_PLACES_OF_3:
            self.refused(BadWeb(1), Web, 3, [(0, 1), (place, 0)])
            self.refused(BadWeb(1), Web, 3, [(0, 1), [0, place], (0, place)])

    def test_2000_and_2001_unlike_arrows(self):
        web = Web(50, MANY_ARROWS[:2000] * 3)
        self.assertEqual(len(web.arrows), 2000)
        self.refused(TooMany(2000), Web, 50, MANY_ARROWS)
        self.refused(TooMany(2000), Web, 50, MANY_ARROWS[::-1] + MANY_ARROWS)

    def test_too_many_goes_behind_all_members(self):
        self.refused(BadWeb(2001), Web, 50, MANY_ARROWS + [(0, 50)])
        self.refused(BadWeb(4002), Web, 50, MANY_ARROWS * 2 + [None])

    def test_len_is_the_number_of_places(self):
        self.assertEqual(shown(len(Web(3, [(0, 1)]))), shown(3))
        self.assertEqual(len(Web(1, [(0, 0)])), 1)
        self.assertEqual(len(Web(2000)), 2000)

    def test_iteration_gives_the_arrows(self):
        web = Web(3, [[2, 1], (0, 2), (0, 0)])
        self.assertEqual(shown([arrow for arrow in web]), shown([(0, 0), (0, 2), (2, 1)]))
        self.assertEqual(list(web), web.arrows)
        self.assertEqual([(u, v) for u in web for v in web], [(u, v) for u in web.arrows for v in web.arrows])

    def test_contains(self):
        web = Web(3, [(0, 1), (1, 2), (2, 2)])
        for u in range(-4, 5):
            for v in range(-4, 5):
                self.assertIs((u, v) in web, (u, v) in [(0, 1), (1, 2), (2, 2)])
        for place in (HUGE, -HUGE, 2000):
            self.assertIs((place, 0) in web, False)
            self.assertIs((0, place) in web, False)
        self.assertIs((0, 1) not in web, False)
        self.assertIs((0, 0) in Web(0), False)

    def test_equality(self):
        web = Web(3, [(0, 1), (1, 2)])
        self.assertIs(web == Web(3, ([1, 2], [0, 1], (0, 1))), True)
        self.assertIs(web != Web(3, ([1, 2], [0, 1], (0, 1))), False)
        for other in (Web(4, [(0, 1), (1, 2)]), Web(3, [(0, 1)]), Web(3, [(0, 1), (2, 1)]), Web(3)):
            self.assertIs(web == other, False)
            self.assertIs(web != other, True)
        self.assertIs(Web(0) == Web(1), False)
        self.assertIs(Web(0) == Web(0), True)
        self.assertIs(Web(5) == Web(4), False)

    def test_equality_with_any_value(self):
        web = Web(2, [(0, 1)])
        for other in (None, True, 2, "web", [(0, 1)], ((0, 1),), {(0, 1): True}, web.arrows, [[1], []]):
            self.assertIs(web == other, False)
            self.assertIs(web != other, True)
            self.assertIs(other == web, False)
            self.assertIs(other != web, True)

    def test_small_webs_are_equal_to_themselves_alone(self):
        webs = all_small_webs(2)
        for i, web in enumerate(webs):
            for j, other in enumerate(webs):
                self.assertIs(web == other, i == j)
                self.assertIs(web != other, i != j)


class WebMethodsTest(ProgramTest):

    def test_out_of_and_into(self):
        web = Web(4, [(2, 3), (2, 0), (2, 2), (1, 2), (0, 2)])
        self.gives([0, 2, 3], web.out_of, 2)
        self.gives([0, 1, 2], web.into, place=2)
        self.gives([], web.out_of, place=3)
        self.gives([], web.into, 1)

    def test_out_of_and_into_of_all_small_webs(self):
        for web in all_small_webs(2) + [Web(40, [(u, (u * u + 7) % 40) for u in range(40)])]:
            for place in range(web.places):
                self.assertEqual(web.out_of(place), [v for u, v in web.arrows if u == place])
                self.assertEqual(web.into(place), [u for u, v in web.arrows if v == place])

    def test_places_of_out_of_and_into(self):
        web = Web(3, [(0, 1)])
        for place in NOT_PLACES_OF_3:
            self.refused(BadNumber(), web.out_of, place)
            self.refused(BadNumber(), web.into, place)

    def test_turned(self):
        self.gives(Web(4, [(1, 0), (2, 2), (0, 3), (3, 0)]), Web(4, [(0, 1), (2, 2), (3, 0), (0, 3)]).turned)
        self.gives(Web(0), Web(0).turned)
        for web in all_small_webs(3)[::7]:
            self.assertEqual(web.turned(), Web(web.places, [(v, u) for u, v in web.arrows]))

    def test_with_arrow(self):
        web = Web(3, [(1, 2)])
        self.gives(Web(3, [(0, 1), (1, 2)]), web.with_arrow, 0, 1)
        self.gives(Web(3, [(0, 1), (1, 2)]), web.with_arrow, v=1, u=0)
        self.gives(Web(3, [(0, 0), (1, 2)]), web.with_arrow, 0, 0)
        self.gives(Web(3, [(2, 1), (1, 2)]), web.with_arrow, 2, 1)
        self.gives(Web(3, [(1, 2)]), web.with_arrow, 1, 2)
        self.assertEqual(web.arrows, [(1, 2)])

    def test_with_arrow_at_the_limit(self):
        full = Web(50, MANY_ARROWS[:2000])
        self.assertEqual(full.with_arrow(0, 0), full)
        self.refused(TooMany(2000), full.with_arrow, 49, 49)
        self.refused(BadNumber(), full.with_arrow, 50, 49)
        self.refused(BadNumber(), full.with_arrow, 49, 50)
        almost = Web(50, MANY_ARROWS[:1999])
        self.assertEqual(len(almost.with_arrow(49, 49).arrows), 2000)

    def test_without_arrow(self):
        web = Web(3, [(0, 1), (1, 0), (1, 2)])
        self.gives(Web(3, [(1, 0), (1, 2)]), web.without_arrow, 0, 1)
        self.gives(Web(3, [(1, 0), (1, 2)]), web.without_arrow, v=1, u=0)
        self.gives(Web(3, [(0, 1), (1, 0), (1, 2)]), web.without_arrow, 2, 2)
        self.assertEqual(web.arrows, [(0, 1), (1, 0), (1, 2)])

    def test_places_of_an_arrow(self):
        web = Web(3, [(0, 1)])
        for place in NOT_PLACES_OF_3:
            for change in (web.with_arrow, web.without_arrow):
                self.refused(BadNumber(), change, place, 0)
                self.refused(BadNumber(), change, 0, place)


class KeptWebTest(ProgramTest):

    def test_a_later_change_of_what_was_passed(self):
        arrow = [0, 1]
        arrows = [arrow, (1, 2)]
        web = Web(3, arrows)
        arrow[1] = 2
        arrows.append((2, 0))
        arrows[1] = (0, 0)
        self.assertEqual(web, Web(3, [(0, 1), (1, 2)]))
        self.assertEqual(shown(web.arrows), shown([(0, 1), (1, 2)]))
        self.assertEqual(web.out_of(0), [1])

    def test_a_later_change_of_what_was_returned(self):
        web = Web(3, [(0, 1), (0, 2), (1, 2)])
        for _ in range(2):
            web.arrows.append((2, 2))
            web.arrows.clear()
            web.out_of(0).append(0)
            web.into(2).clear()
            web.out_of(2).append(1)
        self.assertEqual(web.arrows, [(0, 1), (0, 2), (1, 2)])
        self.assertEqual(list(web), [(0, 1), (0, 2), (1, 2)])
        self.assertEqual((web.out_of(0), web.into(2), web.out_of(2)), ([1, 2], [0, 1], []))
        self.assertEqual(web, Web(3, [(0, 1), (0, 2), (1, 2)]))
        self.assertIs((2, 2) in web, False)

    def test_a_web_never_changes(self):
        web = Web(3, [(0, 1), (1, 1)])
        web.with_arrow(2, 0)
        web.without_arrow(0, 1)
        web.turned()
        self.refused(BadNumber(), web.with_arrow, 0, 3)
        self.assertEqual(web, Web(3, [(0, 1), (1, 1)]))
        self.assertEqual((web.into(0), web.out_of(0), web.into(1)), ([], [1], [0, 1]))

    def test_webs_share_nothing(self):
        first = Web(2)
        second = Web(2, [(0, 1)])
        self.assertEqual((first.arrows, second.arrows), ([], [(0, 1)]))
        third = second.with_arrow(1, 0)
        self.assertEqual((first.out_of(1), second.out_of(1), third.out_of(1)), ([], [], [0]))


if __name__ == "__main__":
    unittest.main()
