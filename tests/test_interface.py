"""The names, the parameters and the files that the interface tells."""

import inspect
import unittest

from huewalks import (
    box, cases, closedlots, counts, engine, errors, foe, higher, huelay, lay, layhue, linedyes, linewebs, orders, papers,
    papertext, rises, roads, rowcase, script, turns, twoway, walks, webs, webtext, width,
)

FUNCTIONS = {
    webs: (
        "row_web(places)",
        "path_web(places)",
        "ring_web(places)",
        "two_way_web(places, ties)",
        "beside_web(first, second)",
        "part_web(web, places)",
    ),
    webtext: ("format_web(web)", "parse_web(text)"),
    walks: (
        "walk_number(web, places)",
        "all_walks(web, places)",
        "is_walk(web, walk)",
        "walk_rank(web, walk)",
        "walk_of_rank(web, places, rank)",
        "windows(walk, span)",
        "is_hueing(web, span, many, hues)",
        "hue_table(web, span, hues)",
        "hue_counts(web, span, many, hues)",
        "hueing_by_number(web, span, many, number)",
    ),
    roads: (
        "is_road(web, span, hues, hue, road)",
        "depths(web, span, hues, hue, cap)",
        "heads(web, span, hues, hue, cap)",
        "longest(web, span, hues, hue, cap)",
        "least_road(web, span, hues, hue, steps)",
        "keeps_bounds(web, span, bounds, hues)",
        "long_road(web, span, bounds, hues)",
        "find_hueing(web, span, bounds)",
    ),
    orders: (
        "chain_order(size)",
        "loose_order(size)",
        "is_closed(order, lot)",
        "closure(order, things)",
    ),
    box: (
        "box_rows(bounds)",
        "box(bounds)",
        "row_number(bounds, row)",
        "row_of_number(bounds, number)",
        "first_rise(bounds, a, b)",
    ),
    closedlots: (
        "lots(order)",
        "up(order)",
        "lot_number(order, lot)",
        "up_times(order, times)",
        "tower(span, bounds)",
        "spelled(span, bounds, thing)",
    ),
    counts: (
        "binomial(whole, chosen)",
        "box_number(bounds)",
        "threes_number(bounds)",
        "cube_number(many)",
        "fours_number(bound)",
        "plane_determinant(bounds)",
        "lot_heights(bounds, lot)",
        "lot_of_heights(bounds, heights)",
        "is_heights(bounds, heights)",
    ),
    linewebs: (
        "line_web(web)",
        "line_web_times(web, times)",
        "line_walk(web, walk)",
        "web_walk(web, numbers)",
        "line_meaning(web, times, place)",
        "joins(order, a, b)",
        "order_web(order)",
        "is_order_web(web)",
        "order_of_web(web)",
    ),
    lay: (
        "is_laying(web, order, laying)",
        "is_web_laying(web, onto, laying)",
        "bad_arrow(web, order, things)",
        "laying_after(first, second)",
        "pull_hues(web, onto, span, laying, hues)",
        "find_laying(web, order, *, start=())",
        "refusal(web, order)",
        "is_refusal(web, order, tree)",
    ),
    cases: (
        "hue_refusal(web, span, bounds)",
        "is_hue_refusal(web, span, bounds, tree)",
        "tree_size(tree)",
        "tree_depth(tree)",
    ),
    layhue: (
        "lift_laying(web, order, laying)",
        "lower_laying(web, order, laying)",
        "lift_times(web, order, times, laying)",
        "lower_times(web, order, times, laying)",
    ),
    huelay: (
        "box_laying(web, bounds, hues)",
        "box_hues(web, bounds, laying)",
        "laying_of(web, span, bounds, hues)",
        "hueing_of(web, span, bounds, laying)",
        "told_hue(span, bounds, things)",
        "told_hueing(span, bounds)",
        "can_hue(web, span, bounds)",
    ),
    rowcase: (
        "row_limit(span, bounds)",
        "row_hueing(places, span, bounds)",
        "is_row_in(web, places)",
        "longest_row(web)",
        "forced_road(span, bounds, hues)",
    ),
    width: (
        "is_chain(order, things)",
        "is_loose(order, things)",
        "is_chain_cover(order, chains)",
        "width_of(order)",
        "wide_lot(order)",
        "chain_cover(order)",
        "levels(order)",
        "height_of(order)",
    ),
    twoway: (
        "is_dyeing(web, many, dyes)",
        "find_dyeing(web, many)",
        "fewest_dyes(web)",
        "greedy_dyes(web)",
        "is_two_way(web)",
        "two_way_limit(span, bounds)",
        "dye_laying(web, span, bounds, dyes)",
        "two_way_hueing(web, span, bounds, dyes)",
        "laying_dyes(web, span, bounds, laying)",
        "can_hue_two_way(web, span, bounds)",
    ),
    linedyes: (
        "middle_number(many)",
        "middle_lots(many)",
        "middle_of(many, lot)",
        "line_dyes(web, many, dyes)",
        "out_lots(web, many, dyes)",
        "web_dyes(web, many, dyes)",
    ),
    rises: (
        "pattern(earlier, later)",
        "table_hues(table)",
        "is_steady(table, hue, places)",
        "steady_choice(table, bounds)",
        "best_table(bounds)",
    ),
    turns: (
        "turn(p, q, r)",
        "point_hues(points)",
        "is_cup(points, places)",
        "is_cap(points, places)",
        "longest_cup(points)",
        "longest_cap(points)",
        "cup_or_cap(points, cups, caps)",
        "best_points(cups, caps)",
        "spread(points)",
        "steepest(points)",
    ),
    higher: (
        "is_order_laying(order, target, laying)",
        "wider_map(bounds, more)",
        "parted_map(bounds, hue, first, second)",
        "renamed_map(bounds, sources)",
        "principal_map(order)",
        "lifted_map(order, target, laying)",
        "tower_map(span, bounds, more)",
        "next_span_laying(web, span, bounds, laying)",
    ),
    papers: (
        "is_answer(web, span, bounds, paper)",
        "decide(web, span, bounds)",
        "says_yes(paper)",
    ),
    papertext: (
        "format_paper(paper)",
        "parse_paper(text)",
        "format_case(web, span, bounds, paper)",
        "parse_case(text)",
        "judge_text(text)",
    ),
    script: ("run_script(text)",),
}

METHODS = {
    webs.Web: (
        "__init__(self, places, arrows=())",
        "out_of(self, place)",
        "into(self, place)",
        "turned(self)",
        "with_arrow(self, u, v)",
        "without_arrow(self, u, v)",
    ),
    orders.Order: (
        "__init__(self, size, pairs=())",
        "at_or_below(self, a, b)",
        "comparable(self, a, b)",
        "above(self, thing)",
        "beneath(self, thing)",
        "beside(self, other)",
    ),
    foe.Foe: (
        "__init__(self, span, bounds)",
        "come(self)",
        "hue_of(self, walk)",
        "hues(self)",
    ),
    foe.Watch: (
        "__init__(self, span, bounds)",
        "come(self, hues)",
        "hues(self)",
        "deepest(self, hue)",
    ),
    engine.Engine: (
        "__init__(self, span, bounds, places=0)",
        "add_place(self)",
        "add_arrow(self, u, v)",
        "drop_arrow(self, u, v)",
        "paint(self, walk, hue)",
        "clean(self, walk)",
        "fill(self)",
        "undo(self)",
        "hue_of(self, walk)",
        "choices(self, walk)",
        "bare(self)",
        "deepest(self, hue)",
        "hues(self)",
        "laying(self)",
    ),
}

PROPERTIES = {
    webs.Web: ("places", "arrows"),
    orders.Order: ("size", "covers"),
    foe.Foe: ("room",),
    foe.Watch: ("ended",),
    engine.Engine: ("span", "bounds", "web", "deeds"),
}

SIGNS = {
    webs.Web: ("__len__", "__iter__", "__contains__", "__eq__", "__ne__"),
    orders.Order: ("__len__", "__eq__", "__ne__", "__mul__", "__add__", "__neg__"),
    foe.Foe: ("__len__",),
    foe.Watch: ("__len__",),
    engine.Engine: (),
}


class InterfaceTest(unittest.TestCase):

    def test_functions_stand_in_their_files(self):
        for module, heads in FUNCTIONS.items():
            for head in heads:
                name = head.partition("(")[0]
                function = getattr(module, name)
                self.assertEqual(name + str(inspect.signature(function)), head)
                self.assertEqual(function.__module__, module.__name__)

    def test_methods_stand_in_the_class(self):
        for kind, module in (
            (webs.Web, webs), (orders.Order, orders), (foe.Foe, foe), (foe.Watch, foe), (engine.Engine, engine),
        ):
            self.assertEqual(kind.__module__, module.__name__)
        for kind, heads in METHODS.items():
            for head in heads:
                name = head.partition("(")[0]
                self.assertEqual(name + str(inspect.signature(vars(kind)[name])), head)
            for name in SIGNS[kind]:
                self.assertIn(name, vars(kind))

    def test_properties_are_read_without_a_call(self):
        web = webs.Web(2, [(0, 1)])
        self.assertEqual((web.places, web.arrows), (2, [(0, 1)]))
        order = orders.Order(2, [(0, 1)])
        self.assertEqual((order.size, order.covers), (2, [(0, 1)]))
        self.assertEqual((foe.Foe(2, [5]).room, foe.Watch(2, [5]).ended), (5, False))
        held = engine.Engine(2, [5], 1)
        self.assertEqual((held.span, held.bounds, held.web, held.deeds), (2, (5,), webs.Web(1), 0))
        for kind, names in PROPERTIES.items():
            for name in names:
                self.assertIsInstance(vars(kind)[name], property)

    def test_errors_stand_in_their_file(self):
        for name in ("HueError", "BadWeb", "BadNumber", "BadText", "TooMany", "TooLong", "Ended"):
            self.assertEqual(getattr(errors, name).__module__, "huewalks.errors")


if __name__ == "__main__":
    unittest.main()
