"""The names, the parameters and the files that the interface tells."""

import inspect
import unittest

from huewalks import box, closedlots, errors, orders, roads, walks, webs, webtext

FUNCTIONS = {
    webs: (
        "row_web(places)",
        "path_web(places)",
        "ring_web(places)",
        "two_way_web(places, ties)",
        "beside_web(first, second)",
        "part_web(web, places)",
    ),
    webtext: ("format_web(web)", "parse_web(text)"),
    walks: (
        "walk_number(web, places)",
        "all_walks(web, places)",
        "is_walk(web, walk)",
        "walk_rank(web, walk)",
        "walk_of_rank(web, places, rank)",
        "windows(walk, span)",
        "is_hueing(web, span, many, hues)",
        "hue_table(web, span, hues)",
        "hue_counts(web, span, many, hues)",
        "hueing_by_number(web, span, many, number)",
    ),
    roads: (
        "is_road(web, span, hues, hue, road)",
        "depths(web, span, hues, hue, cap)",
        "heads(web, span, hues, hue, cap)",
        "longest(web, span, hues, hue, cap)",
        "least_road(web, span, hues, hue, steps)",
        "keeps_bounds(web, span, bounds, hues)",
        "long_road(web, span, bounds, hues)",
        "find_hueing(web, span, bounds)",
    ),
    orders: (
        "chain_order(size)",
        "loose_order(size)",
        "is_closed(order, lot)",
        "closure(order, things)",
    ),
    box: (
        "box_rows(bounds)",
        "box(bounds)",
        "row_number(bounds, row)",
        "row_of_number(bounds, number)",
        "first_rise(bounds, a, b)",
    ),
    closedlots: (
        "lots(order)",
        "up(order)",
        "lot_number(order, lot)",
        "up_times(order, times)",
        "tower(span, bounds)",
        "spelled(span, bounds, thing)",
    ),
}

METHODS = {
    webs.Web: (
        "__init__(self, places, arrows=())",
        "out_of(self, place)",
        "into(self, place)",
        "turned(self)",
        "with_arrow(self, u, v)",
        "without_arrow(self, u, v)",
    ),
    orders.Order: (
        "__init__(self, size, pairs=())",
        "at_or_below(self, a, b)",
        "comparable(self, a, b)",
        "above(self, thing)",
        "beneath(self, thing)",
        "beside(self, other)",
    ),
}

SIGNS = {
    webs.Web: ("__len__", "__iter__", "__contains__", "__eq__", "__ne__"),
    orders.Order: ("__len__", "__eq__", "__ne__", "__mul__", "__add__", "__neg__"),
}


class InterfaceTest(unittest.TestCase):

    def test_functions_stand_in_their_files(self):
        for module, heads in FUNCTIONS.items():
            for head in heads:
                name = head.partition("(")[0]
                function = getattr(module, name)
                self.assertEqual(name + str(inspect.signature(function)), head)
                self.assertEqual(function.__module__, module.__name__)

    def test_methods_stand_in_the_class(self):
        self.assertEqual(webs.Web.__module__, "huewalks.webs")
        self.assertEqual(orders.Order.__module__, "huewalks.orders")
        for kind, heads in METHODS.items():
            for head in heads:
                name = head.partition("(")[0]
                self.assertEqual(name + str(inspect.signature(vars(kind)[name])), head)
            for name in SIGNS[kind]:
                self.assertIn(name, vars(kind))

    def test_properties_are_read_without_a_call(self):
        web = webs.Web(2, [(0, 1)])
        self.assertEqual((web.places, web.arrows), (2, [(0, 1)]))
        order = orders.Order(2, [(0, 1)])
        self.assertEqual((order.size, order.covers), (2, [(0, 1)]))

    def test_errors_stand_in_their_file(self):
        for name in ("HueError", "BadWeb", "BadNumber", "BadText", "TooMany", "TooLong", "Ended"):
            self.assertEqual(getattr(errors, name).__module__, "huewalks.errors")


if __name__ == "__main__":
    unittest.main()
