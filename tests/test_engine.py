"""The engine: points 3 to 8, 44 and 45, and huewalks.engine."""

import random
import unittest

from huewalks.engine import Engine
from huewalks.errors import BadBounds, BadNumber, BadWalk, BadWeb, HueError, TooLong, TooMany, Unhued
from huewalks.huelay import laying_of
from huewalks.roads import depths, least_road, long_road
from huewalks.walks import all_walks
from huewalks.webs import Web, path_web, ring_web, row_web, two_way_web
from helpers import (
    HUGE, NOT_INTEGERS, NOT_SEQUENCES, NOT_SPANS, TOWERS_OF_MORE, WRONG_BOUNDS, ProgramTest, dense_web, hub_web, shown,
)

NOT_PLACES_OF_ENGINES = NOT_INTEGERS + (-1, 101, HUGE, -HUGE)


def engine_of(web, span, bounds, table=()):
    """An engine for the web with these walks painted, a dict or nothing."""
    engine = Engine(span, bounds, web.places)
    for u, v in web:
        engine.add_arrow(u, v)
    for walk in table:
        engine.paint(walk, table[walk])
    return engine


def roads_by_trial(table, span, hue, steps):
    """All roads of the hue with at least one step and so many, ascending, by the painted walks alone."""
    windows = sorted([walk for walk in table if table[walk] == hue])
    roads = windows
    for _ in range(steps - 1):
        roads = [road + walk[-1:] for road in roads for walk in windows if walk[:-1] == road[1 - span:]]
    return sorted(roads)


def state(engine):
    """All that an engine answers without changing, but its laying."""
    walks = all_walks(engine.web, engine.span)
    return shown([
        engine.span, engine.bounds, engine.web, engine.deeds, engine.bare(), [engine.hue_of(walk) for walk in walks],
        [engine.deepest(hue) for hue in range(len(engine.bounds))],
    ])


class Model:
    """An engine in the words of points 44 and 45, without haste."""

    def __init__(self, span, bounds, places):
        self.span, self.bounds, self.web, self.table, self.past = span, bounds, Web(places), {}, []

    def go_on(self, web, table):
        if len(self.past) == 300:
            raise TooMany(300)
        self.past.append((self.web, self.table))
        self.web, self.table = web, table

    def add_place(self):
        if self.web.places == 100:
            raise TooMany(100)
        number = self.web.places
        self.go_on(Web(number + 1, self.web.arrows), self.table)
        return number

    def add_arrow(self, u, v):
        if (u, v) in self.web:
            raise BadWeb(None)
        web = self.web.with_arrow(u, v)
        before = all_walks(self.web, self.span)
        fresh = [walk for walk in all_walks(web, self.span) if walk not in before]
        self.go_on(web, self.table)
        return fresh

    def drop_arrow(self, u, v):
        if (u, v) not in self.web:
            raise BadWeb(None)
        web = self.web.without_arrow(u, v)
        left = all_walks(web, self.span)
        gone = [walk for walk in all_walks(self.web, self.span) if walk not in left]
        self.go_on(web, {walk: self.table[walk] for walk in self.table if walk in left})
        return gone

    def too_long(self, walk, hue):
        roads = roads_by_trial({**self.table, walk: hue}, self.span, hue, self.bounds[hue])
        return roads[0] if roads else None

    def paint(self, walk, hue):
        if self.table.get(walk) == hue:
            return
        road = self.too_long(walk, hue)
        if road is not None:
            raise TooLong(hue, road)
        self.go_on(self.web, {**self.table, walk: hue})

    def clean(self, walk):
        if walk in self.table:
            self.go_on(self.web, {told: self.table[told] for told in self.table if told != walk})
            return self.past[-1][1][walk]
        return None

    def fill(self):
        before, left = self.table, 0
        for walk in self.bare():
            hues = [hue for hue in range(len(self.bounds)) if self.too_long(walk, hue) is None]
            if hues:
                self.table = {**self.table, walk: hues[0]}
            left += not hues
        after, self.table = self.table, before
        if after != before:
            self.go_on(self.web, after)
        return left

    def undo(self):
        if not self.past:
            return False
        self.web, self.table = self.past.pop()
        return True

    def hue_of(self, walk):
        return self.table.get(walk)

    def choices(self, walk):
        return [h for h in range(len(self.bounds)) if self.table.get(walk) == h or self.too_long(walk, h) is None]

    def bare(self):
        return [walk for walk in all_walks(self.web, self.span) if walk not in self.table]

    def deepest(self, hue):
        steps = 0
        while roads_by_trial(self.table, self.span, hue, steps + 1):
            steps += 1
        return steps

    def hues(self):
        if self.bare():
            raise Unhued(self.bare()[0])
        return [self.table[walk] for walk in all_walks(self.web, self.span)]

    def laying(self):
        return laying_of(self.web, self.span, self.bounds, self.hues())


def outcome(call, *args):
    """What a call returns or raises, as a string."""
    try:
        return shown(call(*args))
    except HueError as error:
        return type(error).__name__ + shown([vars(error)[key] for key in sorted(vars(error))])


class EngineTest(ProgramTest):

    def refused_and_unchanged(self, expected, engine, call, *args, **named):
        """The call is refused and changes nothing."""
        before = state(engine)
        self.refused(expected, call, *args, **named)
        self.assertEqual(state(engine), before)


class ModelTest(EngineTest):

    def test_many_calls(self):
        chance = random.Random(44)
        for span, bounds, places in (
            (2, [2, 2], 4), (2, (3, 1, 2), 5), (3, [2, 2], 4), (3, [1, 3], 3), (4, [2], 3), (2, [4], 4), (5, [2, 2], 3),
            (6, [1, 2], 2), (3, [3], 0), (2, [2] * 8, 3),
        ):
            engine, model = Engine(span, bounds, places), Model(span, tuple(bounds), places)
            for _ in range(160):
                self.one_call(chance, engine, model)
            self.assertGreater(engine.deeds, 0)
            while engine.deeds:
                self.assertIs(engine.undo(), model.undo())
                self.assertEqual(shown(engine.web), shown(model.web))
                self.assertEqual(engine.bare(), model.bare())
            self.assertEqual(shown(engine.web), shown(Web(places)))

    def one_call(self, chance, engine, model):
        places = model.web.places
        walks = all_walks(model.web, model.span)
        hue = chance.randrange(len(model.bounds))
        word = chance.choice(["paint"] * 6 + ["add_arrow"] * 4 + ["drop_arrow", "clean", "fill", "undo", "undo"])
        if chance.random() < 0.02 and places < 6:
            word = "add_place"
        args = ()
        if word in ("paint", "clean"):
            if not walks:
                return
            args = (chance.choice(walks), hue)[:2 if word == "paint" else 1]
        if word in ("add_arrow", "drop_arrow"):
            # Too many walks would make the model slow.
            if places == 0 or word == "add_arrow" and len(walks) > 30:
                return
            args = (chance.randrange(places), chance.randrange(places))
        self.assertEqual(outcome(getattr(engine, word), *args), outcome(getattr(model, word), *args), (word, args))
        self.compare(engine, model, args[:1] if word == "paint" else ())

    def compare(self, engine, model, walks):
        self.assertEqual(shown(engine.web), shown(model.web))
        self.assertEqual(engine.deeds, len(model.past))
        self.assertEqual(shown(engine.bare()), shown(model.bare()))
        for hue in range(len(model.bounds)):
            self.assertEqual(shown(engine.deepest(hue)), shown(model.deepest(hue)))
        for walk in walks:
            self.assertEqual(shown(engine.choices(walk)), shown(model.choices(walk)))
            self.assertEqual(shown(engine.hue_of(walk)), shown(model.hue_of(walk)))
        self.assertEqual(outcome(engine.hues), outcome(model.hues))
        self.assertEqual(outcome(engine.laying), outcome(model.laying))

    def test_answers_are_those_of_a_new_engine(self):
        chance = random.Random(45)
        for span, bounds in ((2, [2, 3]), (3, [2, 2]), (4, [3])):
            engine = Engine(span, bounds, 4)
            for _ in range(60):
                u, v = chance.randrange(4), chance.randrange(4)
                if (u, v) in engine.web:
                    if chance.random() < 0.4:
                        engine.drop_arrow(u, v)
                elif len(engine.bare()) < 40:
                    engine.add_arrow(u, v)
                engine.fill()
                bare = engine.bare()
                walks = all_walks(engine.web, span)
                for walk in walks[::3]:
                    engine.clean(walk)
                fresh = Engine(span, bounds, 4)
                for u, v in engine.web:
                    fresh.add_arrow(u, v)
                for walk in walks[::-1]:
                    if engine.hue_of(walk) is not None:
                        fresh.paint(walk, engine.hue_of(walk))
                self.assertEqual(fresh.bare(), engine.bare())
                for walk in walks[::2]:
                    self.assertEqual(fresh.choices(walk), engine.choices(walk))
                self.assertEqual(fresh.fill(), engine.fill())
                self.assertEqual([fresh.hue_of(walk) for walk in walks], [engine.hue_of(walk) for walk in walks])
                self.assertLessEqual(len(engine.bare()), len(bare) + len(walks))
                if engine.deeds > 250:
                    break


class MakingTest(EngineTest):

    def test_new_engines(self):
        for span in range(2, 7):
            for places in (0, 1, 100):
                engine = Engine(span, [2, 3], places)
                self.assertEqual(shown([engine.span, engine.bounds, engine.web, engine.deeds]),
                                 shown([span, (2, 3), Web(places), 0]))
                self.assertEqual((engine.bare(), engine.hues(), engine.fill(), engine.undo()), ([], [], 0, False))
                self.assertEqual((engine.deepest(0), engine.deepest(1), len(engine.laying())), (0, 0, places))
        self.assertEqual(shown(Engine(2, (5,)).web), shown(Web(0)))
        self.assertEqual(Engine(places=3, bounds=[1], span=2).web.places, 3)

    def test_wrong_arguments(self):
        for span in NOT_SPANS:
            self.refused(BadNumber(), Engine, span, None, None)
        for bounds, bad_at in WRONG_BOUNDS:
            self.refused(BadBounds(bad_at), Engine, 2, bounds, None)
        for places in NOT_PLACES_OF_ENGINES:
            self.refused(BadNumber(), Engine, 2, [200] * 8, places)

    def test_places(self):
        engine = Engine(2, [2], 98)
        self.assertEqual((engine.add_place(), engine.add_place(), engine.deeds), (98, 99, 2))
        self.refused_and_unchanged(TooMany(100), engine, engine.add_place)
        self.assertEqual(engine.add_arrow(99, 0), [(99, 0)])
        self.assertIs(engine.undo(), True)
        self.assertIs(engine.undo(), True)
        self.assertEqual(engine.web.places, 99)
        self.assertEqual(engine.add_place(), 99)
        self.assertEqual(Engine(6, [2]).add_place(), 0)

    def test_arrows(self):
        engine = Engine(3, [2, 2], 4)
        self.assertEqual(shown(engine.add_arrow(1, 2)), "[]")
        self.assertEqual(shown(engine.add_arrow(u=0, v=1)), shown([(0, 1, 2)]))
        engine.paint([0, 1, 2], 1)
        self.assertEqual(shown(engine.add_arrow(2, 0)), shown([(1, 2, 0), (2, 0, 1)]))
        self.assertEqual(shown(engine.add_arrow(1, 1)), shown([(0, 1, 1), (1, 1, 1), (1, 1, 2)]))
        self.assertEqual(engine.bare(), [(0, 1, 1), (1, 1, 1), (1, 1, 2), (1, 2, 0), (2, 0, 1)])
        self.assertEqual(engine.hue_of((0, 1, 2)), 1)
        self.assertEqual(shown(engine.drop_arrow(u=2, v=0)), shown([(1, 2, 0), (2, 0, 1)]))
        self.assertEqual(engine.hue_of((0, 1, 2)), 1)
        self.assertEqual(shown(engine.drop_arrow(0, 1)), shown([(0, 1, 1), (0, 1, 2)]))
        self.assertEqual(shown(engine.add_arrow(0, 1)), shown([(0, 1, 1), (0, 1, 2)]))
        self.assertIsNone(engine.hue_of((0, 1, 2)))
        self.assertEqual(engine.deeds, 8)
        # A walk may use the arrow twice.
        engine = Engine(4, [9], 2)
        engine.add_arrow(0, 1)
        self.assertEqual(engine.add_arrow(1, 0), [(0, 1, 0, 1), (1, 0, 1, 0)])
        self.assertEqual(engine.drop_arrow(0, 1), [(0, 1, 0, 1), (1, 0, 1, 0)])

    def test_wrong_arrows(self):
        engine = engine_of(path_web(3), 2, [2])
        for call in (engine.add_arrow, engine.drop_arrow):
            for place in NOT_INTEGERS + (-1, 3, HUGE, -HUGE):
                self.refused_and_unchanged(BadNumber(), engine, call, place, 0)
                self.refused_and_unchanged(BadNumber(), engine, call, 0, place)
        self.refused_and_unchanged(BadWeb(None), engine, engine.add_arrow, 0, 1)
        self.refused_and_unchanged(BadWeb(None), engine, engine.drop_arrow, 1, 0)
        empty = Engine(2, [2])
        self.refused_and_unchanged(BadNumber(), empty, empty.add_arrow, 0, 0)

    def test_exactly_2000_and_2001_walks(self):
        # 50 times 40 walks of three places through one place, none of four places.
        web = hub_web(50, 40)
        engine = engine_of(Web(94, web.arrows[1:]), 3, [5])
        self.assertEqual(len(engine.bare()), 1960)
        self.assertEqual(len(engine.add_arrow(*web.arrows[0])), 40)
        self.assertEqual(len(engine.bare()), 2000)
        # The first arrow makes no walk of three places, the second one a single walk.
        self.assertEqual(engine.add_arrow(91, 92), [])
        self.refused_and_unchanged(TooMany(2000), engine, engine.add_arrow, 92, 93)
        self.refused_and_unchanged(TooMany(2000), engine, engine.add_arrow, 93, 91)
        self.assertEqual(len(engine.drop_arrow(0, 90)), 40)
        self.assertEqual(engine.add_arrow(92, 93), [(91, 92, 93)])

    def test_walks_of_fewer_places_count_too(self):
        web = hub_web(50, 40)
        for span in (4, 5, 6):
            engine = engine_of(Web(92, web.arrows), span, [5])
            self.assertEqual(engine.bare(), [])
            self.refused_and_unchanged(TooMany(2000), engine, engine.add_arrow, 90, 91)
            self.refused_and_unchanged(BadWeb(None), engine, engine.add_arrow, 0, 90)
            engine.drop_arrow(0, 90)
            engine.drop_arrow(1, 90)
            self.assertEqual((engine.add_arrow(90, 91), engine.fill()), ([], 0))
        engine = engine_of(Web(92, web.arrows), 2, [5])
        self.assertEqual(engine.add_arrow(90, 91), [(90, 91)])


class PaintingTest(EngineTest):

    def test_ordinary_answers(self):
        engine = engine_of(row_web(4), 2, [2, 3])
        self.assertIsNone(engine.paint([0, 1], 1))
        self.assertIsNone(engine.paint(walk=(1, 2), hue=0))
        self.assertEqual((engine.hue_of([0, 1]), engine.hue_of(walk=(1, 2)), engine.hue_of((2, 3))), (1, 0, None))
        self.assertEqual(engine.bare(), [(0, 2), (0, 3), (1, 3), (2, 3)])
        self.assertEqual((engine.clean([0, 1]), engine.clean(walk=(0, 1)), engine.clean((1, 2))), (1, None, 0))
        self.assertEqual((engine.deeds, len(engine.bare())), (10, 6))

    def test_a_road_of_as_many_steps_as_the_bound_and_of_one_fewer(self):
        for span in range(2, 7):
            for bound in (1, 2, 3, 5):
                web = path_web(span + bound)
                engine = engine_of(web, span, [bound, 200])
                walks = all_walks(web, span)
                for walk in walks[1:bound]:
                    engine.paint(walk, 0)
                self.assertEqual(engine.deepest(0), bound - 1)
                self.refused_and_unchanged(TooLong(0, tuple(range(span + bound - 1))), engine, engine.paint, walks[0], 0)
                self.assertEqual(engine.choices(walks[0]), [1])
                engine.paint(walks[0], 1)
                self.refused_and_unchanged(
                    TooLong(0, tuple(range(span + bound - 1))), engine, engine.paint, list(walks[0]), 0)
                if bound > 1:
                    engine.clean(walks[bound - 1])
                    engine.paint(walks[0], 0)
                    road = TooLong(0, tuple(range(span + bound - 1)))
                    self.refused_and_unchanged(road, engine, engine.paint, walks[bound - 1], 0)

    def test_the_least_road_is_told(self):
        engine = engine_of(row_web(5), 2, [3])
        for walk in ((0, 2), (1, 2), (3, 4), (0, 1)):
            if walk != (0, 1):
                engine.paint(walk, 0)
        self.refused_and_unchanged(TooLong(0, (0, 2, 3, 4)), engine, engine.paint, (2, 3), 0)
        engine.paint((0, 1), 0)
        self.refused_and_unchanged(TooLong(0, (0, 1, 2, 3)), engine, engine.paint, (2, 3), 0)

    def test_the_hue_it_has_and_another_one(self):
        engine = engine_of(path_web(3), 2, [2, 2])
        engine.paint((0, 1), 0)
        engine.paint((1, 2), 1)
        self.assertEqual(engine.deeds, 4)
        engine.paint((0, 1), 0)
        self.assertEqual(engine.deeds, 4)
        self.refused_and_unchanged(TooLong(1, (0, 1, 2)), engine, engine.paint, (0, 1), 1)
        self.assertEqual((engine.choices((0, 1)), engine.choices((1, 2))), ([0], [1]))
        engine.paint((1, 2), 1)
        self.assertEqual((engine.deeds, engine.hues()), (4, [0, 1]))
        engine = engine_of(path_web(3), 2, [1, 3])
        engine.paint((0, 1), 1)
        self.refused_and_unchanged(TooLong(0, (0, 1)), engine, engine.paint, (0, 1), 0)
        self.assertEqual(engine.choices((0, 1)), [1])

    def test_loops_rings_and_two_way_arrows(self):
        for span in range(2, 7):
            for bounds in ([1], [200], [3, 200]):
                engine = engine_of(ring_web(1), span, bounds)
                for hue, bound in enumerate(bounds):
                    self.refused_and_unchanged(
                        TooLong(hue, (0,) * (span - 1 + bound)), engine, engine.paint, [0] * span, hue)
                self.assertEqual((engine.choices([0] * span), engine.fill(), engine.deeds), ([], 1, 1))
                self.refused_and_unchanged(Unhued((0,) * span), engine, engine.hues)
        engine = engine_of(ring_web(3), 2, [200, 200])
        engine.paint((0, 1), 0)
        engine.paint((1, 2), 0)
        road = tuple([i % 3 for i in range(201)])
        self.refused_and_unchanged(TooLong(0, road), engine, engine.paint, (2, 0), 0)
        self.assertEqual((engine.fill(), engine.hues()), (0, [0, 0, 1]))
        self.assertEqual((engine.deepest(0), engine.deepest(1)), (2, 1))
        engine = engine_of(two_way_web(2, [(0, 1)]), 3, [4, 1, 4])
        self.assertEqual((engine.fill(), engine.hues()), (0, [0, 2]))
        engine = engine_of(two_way_web(2, [(0, 1)]), 3, [4, 1])
        self.assertEqual((engine.fill(), engine.bare()), (1, [(1, 0, 1)]))
        self.refused_and_unchanged(TooLong(0, (0, 1, 0, 1, 0, 1)), engine, engine.paint, (1, 0, 1), 0)

    def test_wrong_walks_and_hues(self):
        engine = engine_of(row_web(4), 3, [2, 2])
        engine.paint((0, 1, 2), 1)
        calls = ((engine.paint, (None,)), (engine.clean, ()), (engine.hue_of, ()), (engine.choices, ()))
        for call, rest in calls:
            for walk in NOT_SEQUENCES + ([], [0, 1], (0, 1, 2, 3), [None] * 4):
                self.refused_and_unchanged(BadWalk(None), engine, call, walk, *rest)
            for place in NOT_INTEGERS + (-1, 4, HUGE, -HUGE):
                self.refused_and_unchanged(BadWalk(0), engine, call, [place, 1, None], *rest)
                self.refused_and_unchanged(BadWalk(1), engine, call, (0, place, place), *rest)
            self.refused_and_unchanged(BadWalk(1), engine, call, [1, 0, 2], *rest)
            self.refused_and_unchanged(BadWalk(2), engine, call, [0, 1, 1], *rest)
        for hue in NOT_INTEGERS + (-1, 2, HUGE, -HUGE):
            self.refused_and_unchanged(BadNumber(), engine, engine.paint, (0, 1, 2), hue)
            self.refused_and_unchanged(BadNumber(), engine, engine.deepest, hue)

    def test_fill_that_paints_none_some_and_all(self):
        engine = engine_of(row_web(5), 2, [3, 3])
        self.assertEqual((engine.fill(), engine.deeds), (0, 11))
        self.assertIsNone(long_road(row_web(5), 2, [3, 3], engine.hues()))
        self.assertEqual((engine.fill(), engine.deeds), (0, 11))
        engine = engine_of(row_web(5), 2, [1, 1])
        self.assertEqual((engine.fill(), engine.deeds), (10, 10))
        engine = engine_of(row_web(5), 2, [2])
        self.assertEqual((engine.fill(), engine.deeds), (6, 11))
        self.assertEqual(engine.bare(), [(1, 2), (1, 3), (1, 4), (2, 3), (2, 4), (3, 4)])
        self.assertEqual(engine.fill(), 6)
        engine.clean((0, 1))
        self.assertEqual((engine.fill(), engine.hue_of((0, 1)), engine.hue_of((1, 2))), (6, 0, None))

    def test_fill_is_painting_one_after_the_other(self):
        chance = random.Random(7)
        for web, span, bounds in (
            (dense_web(4), 2, [2, 3]), (row_web(9), 2, [3, 2]), (row_web(7), 3, [2, 2]), (ring_web(5), 4, [3, 9]),
            (dense_web(3), 3, [2, 2, 2]), (row_web(6), 4, [2]), (two_way_web(4, [(0, 1), (1, 2), (2, 3)]), 5, [3, 3]),
            (row_web(12), 2, [200]), (dense_web(3), 2, [200, 200]), (row_web(8), 6, [1, 1, 2]),
        ):
            first, second = engine_of(web, span, bounds), engine_of(web, span, bounds)
            for walk in chance.sample(all_walks(web, span), len(all_walks(web, span)) // 4):
                hues = first.choices(walk)
                if hues:
                    hue = chance.choice(hues)
                    first.paint(walk, hue)
                    second.paint(walk, hue)
            for walk in second.bare():
                hues = second.choices(walk)
                if hues:
                    second.paint(walk, hues[0])
            self.assertEqual(first.fill(), len(second.bare()))
            self.assertEqual(first.bare(), second.bare())
            walks = all_walks(web, span)
            self.assertEqual([first.hue_of(walk) for walk in walks], [second.hue_of(walk) for walk in walks])

    def test_hues_and_laying(self):
        engine = engine_of(row_web(4), 3, [2, 2])
        self.refused_and_unchanged(Unhued((0, 1, 2)), engine, engine.hues)
        engine.fill()
        self.gives([0, 0, 0, 1], engine.hues)
        self.gives(laying_of(row_web(4), 3, [2, 2], [0, 0, 0, 1]), engine.laying)
        engine.clean((1, 2, 3))
        self.refused_and_unchanged(Unhued((1, 2, 3)), engine, engine.hues)
        self.refused_and_unchanged(Unhued((1, 2, 3)), engine, engine.laying)
        for span, bounds in TOWERS_OF_MORE:
            engine = Engine(span, bounds, span)
            self.refused_and_unchanged(TooMany(200), engine, engine.laying)
            self.gives([], engine.hues)
            for i in range(span - 1):
                engine.add_arrow(i, i + 1)
            self.refused_and_unchanged(Unhued(tuple(range(span))), engine, engine.laying)
            engine.fill()
            self.refused_and_unchanged(TooMany(200), engine, engine.laying)

    def test_deepest(self):
        engine = engine_of(row_web(5), 2, [5, 2, 1])
        self.assertEqual([engine.deepest(hue) for hue in range(3)], [0, 0, 0])
        for i in range(4):
            engine.paint((i, i + 1), 0)
            self.gives(i + 1, engine.deepest, hue=0)
        engine.paint((1, 2), 1)
        self.assertEqual([engine.deepest(hue) for hue in range(3)], [2, 1, 0])
        engine = engine_of(path_web(100), 2, [200])
        engine.fill()
        self.gives(99, engine.deepest, 0)
        self.gives(0, Engine(2, [1]).deepest, 0)

    def test_exactly_2000_walks_are_filled(self):
        engine = engine_of(Web(92, hub_web(50, 40).arrows), 3, [2, 2])
        self.assertEqual((engine.fill(), len(engine.hues()), engine.deepest(0)), (0, 2000, 1))
        self.assertEqual(engine.choices((0, 90, 50)), [0, 1])

    def test_a_fill_of_a_web_with_many_arrows(self):
        arrows = [(u, v) for u in range(17) for v in range(17) if u != v]
        web = Web(17, arrows)
        engine = engine_of(web, 2, [17, 2])
        bare = engine.bare()
        self.assertEqual(bare, arrows)
        self.assertEqual(engine.fill(), len(engine.bare()))
        hues = [2 if engine.hue_of(walk) is None else engine.hue_of(walk) for walk in arrows]
        for hue, bound in ((0, 17), (1, 2)):
            self.assertEqual(max(depths(web, 2, hues, hue, 200)), bound - 1)
            for walk in engine.bare()[::9]:
                worn = [hue if told == walk else h for told, h in zip(arrows, hues)]
                self.refused(TooLong(hue, least_road(web, 2, worn, hue, bound)), engine.paint, walk, hue)

class DeedsTest(EngineTest):

    def test_each_deed_is_taken_back(self):
        engine = Engine(2, [2, 2], 2)
        seen = [state(engine)]
        deeds = (
            (engine.add_place, ()), (engine.add_arrow, (0, 1)), (engine.add_arrow, (1, 2)), (engine.paint, ((0, 1), 0)),
            (engine.paint, ((0, 1), 1)), (engine.fill, ()), (engine.clean, ((0, 1),)), (engine.drop_arrow, (1, 2)),
            (engine.add_arrow, (1, 2)), (engine.fill, ()),
        )
        for number, (call, args) in enumerate(deeds, 1):
            call(*args)
            self.assertEqual(engine.deeds, number)
            seen.append(state(engine))
        while len(seen) > 1:
            self.assertEqual(state(engine), seen.pop())
            self.assertIs(engine.undo(), True)
        self.assertEqual(state(engine), seen[0])
        self.assertIs(engine.undo(), False)
        self.assertEqual(state(engine), seen[0])

    def test_a_call_that_changes_nothing_is_not_remembered(self):
        engine = engine_of(path_web(3), 2, [2])
        engine.paint((0, 1), 0)
        for call, args in (
            (engine.paint, ((0, 1), 0)), (engine.clean, ((1, 2),)), (engine.fill, ()), (engine.hue_of, ((0, 1),)),
            (engine.choices, ((0, 1),)), (engine.bare, ()), (engine.deepest, (0,)),
        ):
            before = state(engine)
            call(*args)
            self.assertEqual(state(engine), before)
        self.assertEqual(engine.deeds, 3)
        self.refused_and_unchanged(BadWeb(None), engine, engine.add_arrow, 0, 1)
        self.refused_and_unchanged(TooLong(0, (0, 1, 2)), engine, engine.paint, (1, 2), 0)

    def test_a_fill_of_several_walks_is_one_deed(self):
        engine = engine_of(row_web(5), 2, [3, 3])
        self.assertEqual((engine.fill(), engine.deeds), (0, 11))
        self.assertIs(engine.undo(), True)
        self.assertEqual((len(engine.bare()), engine.deeds), (10, 10))
        self.assertEqual((engine.fill(), engine.deeds), (0, 11))

    def use_up(self, most, engine, u, v):
        """Adds and drops the arrow until so many deeds are remembered."""
        while engine.deeds < most:
            if (u, v) in engine.web:
                engine.drop_arrow(u, v)
            else:
                engine.add_arrow(u, v)
        self.assertEqual(engine.deeds, most)

    def test_299_and_300_deeds(self):
        engine = engine_of(path_web(5), 2, [2, 2], {(0, 1): 1})
        self.use_up(299, engine, 4, 0)
        self.assertEqual(engine.web, path_web(5))
        engine.paint((1, 2), 0)
        self.assertEqual(engine.deeds, 300)
        for call, args in (
            (engine.add_place, ()), (engine.add_arrow, (0, 4)), (engine.drop_arrow, (0, 1)), (engine.paint, ((2, 3), 1)),
            (engine.clean, ((0, 1),)), (engine.fill, ()),
        ):
            self.refused_and_unchanged(TooMany(300), engine, call, *args)
        # All other refusals go first.
        self.refused_and_unchanged(BadWeb(None), engine, engine.add_arrow, 0, 1)
        self.refused_and_unchanged(BadWeb(None), engine, engine.drop_arrow, 0, 4)
        self.refused_and_unchanged(BadNumber(), engine, engine.add_arrow, 5, 0)
        self.refused_and_unchanged(BadNumber(), engine, engine.drop_arrow, 0, 5)
        self.refused_and_unchanged(BadWalk(1), engine, engine.clean, (0, 2))
        self.refused_and_unchanged(BadNumber(), engine, engine.paint, (2, 3), 2)
        self.refused_and_unchanged(TooLong(0, (0, 1, 2)), engine, engine.paint, (0, 1), 0)
        self.refused_and_unchanged(TooLong(1, (0, 1, 2)), engine, engine.paint, (1, 2), 1)
        # What changes nothing is not refused.
        self.assertIsNone(engine.paint((0, 1), 1))
        self.assertIsNone(engine.clean((2, 3)))
        self.assertEqual(engine.deeds, 300)

    def test_an_undo_and_a_deed_again(self):
        engine = engine_of(path_web(5), 2, [2, 2])
        self.use_up(300, engine, 4, 0)
        self.assertIs(engine.undo(), True)
        self.assertEqual((engine.deeds, engine.add_place(), engine.deeds), (299, 5, 300))
        self.refused_and_unchanged(TooMany(300), engine, engine.add_place)
        for left in range(299, -1, -1):
            self.assertIs(engine.undo(), True)
            self.assertEqual(engine.deeds, left)
        self.assertIs(engine.undo(), False)
        self.assertEqual(shown(engine.web), shown(Web(5)))
        self.assertEqual(engine.add_arrow(3, 3), [(3, 3)])
        self.assertEqual(engine.deeds, 1)

    def test_fill_while_300_are_remembered(self):
        engine = engine_of(path_web(3), 2, [1, 2])
        self.use_up(300, engine, 2, 0)
        for _ in range(2):
            self.refused_and_unchanged(TooMany(300), engine, engine.fill)
        engine.undo()
        self.assertGreater(len(engine.bare()), engine.fill())
        left = engine.bare()
        self.assertEqual((engine.fill(), engine.deeds), (len(left), 300))
        # No walk would get a hue: there is nothing to refuse.
        engine = engine_of(path_web(3), 2, [1])
        self.use_up(300, engine, 2, 0)
        self.assertEqual((engine.fill(), engine.deeds), (len(engine.bare()), 300))

    def test_the_other_limits_go_before_300_deeds(self):
        engine = Engine(2, [2], 100)
        self.use_up(300, engine, 99, 0)
        self.refused_and_unchanged(TooMany(100), engine, engine.add_place)
        engine = engine_of(Web(94, hub_web(50, 40).arrows), 4, [5])
        self.use_up(300, engine, 92, 93)
        self.refused_and_unchanged(TooMany(2000), engine, engine.add_arrow, 90, 91)
        self.refused_and_unchanged(TooMany(300), engine, engine.add_arrow, 91, 92)

    def test_objects_share_no_state(self):
        bounds = [2, 2]
        first, second = Engine(2, bounds, 3), Engine(2, bounds, 3)
        bounds[0] = 9
        bounds.append(1)
        first.add_arrow(0, 1)
        first.add_arrow(1, 2).clear()
        first.bare().clear()
        walk = [0, 1]
        first.paint(walk, 1)
        walk[0] = 1
        first.choices((1, 2)).clear()
        self.assertEqual((first.bare(), first.choices((1, 2)), first.hue_of((0, 1))), ([(1, 2)], [0], 1))
        self.assertEqual((second.bare(), second.deeds, second.web == Web(3), second.bounds), ([], 0, True, (2, 2)))
        first.fill()
        first.hues().clear()
        first.laying().clear()
        self.assertEqual((first.hues(), first.laying()), ([1, 0], laying_of(path_web(3), 2, [2, 2], [1, 0])))
        first.drop_arrow(0, 1).clear()
        first.web.arrows.clear()
        self.assertEqual((first.web.arrows, first.hues()), ([(1, 2)], [0]))


if __name__ == "__main__":
    unittest.main()
