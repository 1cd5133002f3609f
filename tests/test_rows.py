"""withincall/rows.py: points 55 to 57 of the document."""

import itertools
import math
import random

from tests.common import NEVER_NUMBERS, SAME, Case, all_states, may_be_made, moves_of, random_state, search
from withincall.boxes import Box
from withincall.classes import class_floor, is_dead
from withincall.errors import InvalidNet, InvalidState, NotFound, TooLarge, Unreachable
from withincall.extents import extent
from withincall.lattice import greatest, least
from withincall.nets import Pipeline, Ring
from withincall.reach import distance, objections
from withincall.rows import Census, count_classes, count_clean, count_dead, count_pairs, nearest_dead
from withincall.states import is_clean, mirror_state

COUNTS = (count_dead, count_clean, count_classes, count_pairs)
ROW = Pipeline.row(2, 1)
START = (2, 1, 0)


class TestDocumentExamples(Case):

    def test_counts(self):
        found = [count_dead(4, 1), count_pairs(4, 1), count_classes(2, 1, 1), count_clean(2, 1, 1)]
        self.assertEqual(found, [13, 22, 7, 4])

    def test_a_census(self):
        census = Census(ROW, START)
        found = [census.many, census.rank((2, 1, 1)), census.state_at(0), census.state_at(9), nearest_dead(ROW, START)]
        self.assertEqual(found, [10, 6, (0, 0, 0), (2, 2, 2), (1, (2, 2, 0))])


class TestCounts(Case):
    """Point 55."""

    def test_one_stage(self):
        for levels in range(1, 9):
            self.assertEqual([count(levels) for count in COUNTS], [levels] * 4)

    def test_one_level(self):
        for many in (0, 1, 2, 39):
            self.assertEqual([count(1, *[2] * many) for count in COUNTS], [1, 1, 1, 1])

    def test_small_rows(self):
        """All counts agree with a search over allowed moves."""
        rows = [(levels, capacities) for levels, many in ((2, 1), (2, 2), (2, 3), (3, 1), (3, 2), (4, 1), (4, 2),
                                                          (5, 1))
                for capacities in itertools.product((1, 2, 3), repeat=many)]
        rows += [(3, (1, 1, 2)), (3, (2, 1, 2)), (3, (1, 3, 1)), (4, (2, 1, 3)), (8, (3,)), (6, (2, 4)),
                 (2, (1, 1, 1, 1))]
        for levels, capacities in rows:
            net = Pipeline.row(*capacities)
            states = all_states(net, levels - 1)
            found = {state: search(net, state) for state in states}
            self.assertTrue(all([max(map(max, reached)) < levels for reached in found.values()]))
            dead = [state for state in states if not any([may_be_made(net, state, move) for move in moves_of(net)])]
            self.assertEqual(count_dead(levels, *capacities), len(dead))
            clean = [state for state in states if list(state) == sorted(state, reverse=True)]
            self.assertEqual(count_clean(levels, *capacities), len(clean))
            classes = {tuple(sorted([other for other in found[state] if state in found[other]])) for state in states}
            self.assertEqual(count_classes(levels, *capacities), len(classes))
            self.assertEqual(count_pairs(levels, *capacities), sum([len(reached) for reached in found.values()]))

    def test_other_functions_count_the_same(self):
        for levels, capacities in ((5, (2, 3)), (4, (1, 2, 2)), (7, (3, 2)), (8, (7,)), (8, (8,)), (8, (999, 1))):
            net = Pipeline.row(*capacities)
            states = all_states(net, levels - 1)
            self.assertEqual(count_dead(levels, *capacities), len([state for state in states if is_dead(net, state)]))
            self.assertEqual(count_clean(levels, *capacities), len([state for state in states if is_clean(net, state)]))
            self.assertEqual(count_classes(levels, *capacities), len({class_floor(net, state) for state in states}))
            self.assertEqual(count_pairs(levels, *capacities), sum([Census(net, state).many for state in states]))

    def test_the_opposite_order(self):
        chance = random.Random(151)
        for _ in range(40):
            levels = chance.randint(1, 6)
            capacities = [chance.randint(1, 8) for _ in range(chance.randint(0, 12))]
            for count in COUNTS:
                self.assertEqual(count(levels, *capacities), count(levels, *reversed(capacities)))

    def test_40_stages_and_8_levels(self):
        chance = random.Random(152)
        for capacities in ([1] * 39, [999] * 39, [chance.randint(1, 9) for _ in range(39)]):
            found = [self.quick(count, 8, *capacities) for count in COUNTS]
            dead, clean, classes, pairs = found
            self.assertEqual(clean, math.comb(47, 7))
            self.assertTrue(dead < classes < 8 ** 40 < pairs)
            for count, number in zip(COUNTS, found):
                self.assertEqual(count(8, *capacities[::-1]), number)
                self.assertIs(type(number), int)
        # Without a ready channel: never more on the left, if all channels are wide.
        self.assertEqual(count_dead(8, *[999] * 39), math.comb(47, 7))

    def test_levels_of_8_and_9(self):
        for count in COUNTS:
            self.assertGreater(count(8, 3), 8)
            for levels in (9, 10, 1000, 10 ** 30):
                self.fails(TooLarge, {"size": levels, "most": 8}, count, levels, 3)
                self.fails(TooLarge, {"size": levels, "most": 8}, count, levels)

    def test_the_levels_come_first(self):
        for count in COUNTS:
            self.fails(TooLarge, {"size": 9, "most": 8}, count, 9, 0, None)
            self.fails(TooLarge, {"size": 9, "most": 8}, count, 9, *[1] * 40)

    def test_the_errors_of_the_row(self):
        for count in COUNTS:
            self.fails(InvalidNet, {"reason": "stages", "position": None}, count, 8, *[1] * 40)
            self.fails(InvalidNet, {"reason": "stages", "position": None}, count, 8, *[None] * 40)
            for value in (0, 1000, -1, True, None, "1", 1.0):
                self.fails(InvalidNet, {"reason": "capacity", "position": 1}, count, 8, 1, value, None)


class TestCensus(Case):
    """Point 56."""

    def check(self, net, start):
        found = search(net, start)
        census = Census(net, start)
        states = sorted(found)
        self.assertEqual(census.many, len(states))
        for rank, state in enumerate(states):
            self.assertEqual(census.rank(state), rank)
            self.assertEqual(census.state_at(rank), state)
        for rank in (-1, len(states), len(states) + 1, True, None):
            self.fails(NotFound, {"number": rank}, census.state_at, rank)
        box = Box.full(net.stages)
        self.assertEqual((census.state_at(0), census.state_at(census.many - 1)), (
            least(net, box, start), greatest(net, box, start)))
        return found

    def test_small_rows(self):
        chance = random.Random(153)
        sizes = []
        for k in range(250):
            net = Pipeline.row(*[chance.randint(1, 4) for _ in range(k % 5)])
            start = random_state(chance, net, chance.choice((2, 4, 6)))
            if k % 2:
                start = tuple(sorted(start, reverse=True))
            sizes.append(len(self.check(net, start)))
        self.assertGreater(len([size for size in sizes if size > 10]), 40)
        self.assertGreater(len([size for size in sizes if 1 < size <= 10]), 40)

    def test_states_that_are_not_reached(self):
        chance = random.Random(154)
        for _ in range(60):
            net = Pipeline.row(*[chance.randint(1, 3) for _ in range(chance.randint(0, 3))])
            start = random_state(chance, net, 3)
            found = search(net, start)
            census = Census(net, start)
            for state in all_states(net, 3):
                if state not in found:
                    first = objections(net, start, state)[0]
                    self.fails(Unreachable, {"objection": first}, census.rank, state)
        for state, position in ((None, None), ((2, 1), None), ((2, 1, 1000), 2), ((2, True, -1), 1), ([2, 1, 0], None)):
            self.fails(InvalidState, {"position": position}, Census(ROW, START).rank, state)

    def test_ranks_that_do_not_exist(self):
        census = Census(ROW, START)
        for value in (*NEVER_NUMBERS, 10, 11, 999, SAME):
            self.fails(NotFound, {"number": value}, census.state_at, value)

    def test_one_stage(self):
        census = Census(Pipeline.row(), (7,))
        self.assertEqual((census.many, census.rank((7,)), census.state_at(0)), (1, 0, (7,)))
        self.assertEqual(nearest_dead(Pipeline(1), (7,)), (0, (7,)))
        self.fails(Unreachable, {"objection": ("source", 0)}, census.rank, (8,))
        self.fails(Unreachable, {"objection": ("sink", 0)}, census.rank, (6,))

    def test_holes(self):
        # Stage 1 holds items that stage 0 does not hold: it stays, or it comes down to stage 0 with stage 2.
        self.check(Pipeline.row(9, 9, 9), (3, 6, 6, 0))
        self.check(Pipeline.row(9, 9, 9), (5, 2, 6, 1))
        self.check(Pipeline.row(9, 9), (1, 5, 0))

    def test_rows_of_pipelines_with_channels_in_any_order(self):
        for channels in itertools.permutations(((0, 1, 2), (1, 2, 1), (2, 3, 3))):
            net = Pipeline(4, *channels)
            self.assertEqual(Census(net, (3, 2, 1, 0)).many, Census(Pipeline.row(2, 1, 3), (3, 2, 1, 0)).many)
            self.assertEqual(nearest_dead(net, (3, 2, 1, 0)), nearest_dead(Pipeline.row(2, 1, 3), (3, 2, 1, 0)))

    def test_long_rows(self):
        chance = random.Random(155)
        for capacities in ([1] * 39, [999] * 39, [chance.randint(1, 60) for _ in range(39)]):
            for start in ((59,) * 20 + (0,) * 20, tuple(range(59, 19, -1)), (59,) + (30,) * 38 + (0,), (0,) * 40,
                          tuple([chance.randint(0, 59) for _ in range(40)])):
                net = Pipeline.row(*capacities)
                census = self.quick(Census, net, start)
                box = Box.full(40)
                self.assertEqual(census.state_at(0), least(net, box, start))
                self.assertEqual(census.state_at(census.many - 1), greatest(net, box, start))
                for part in range(1, 5):
                    rank = census.many * part // 5
                    self.assertEqual(census.rank(self.quick(census.state_at, rank)), rank)
                size, state = self.quick(nearest_dead, net, start)
                self.assertEqual(distance(net, start, state), size)
                self.assertIs(is_dead(net, state), True)

    def test_very_many_states(self):
        # Any row of 40 counters from 0 to 59 that never increases.
        census = Census(Pipeline.row(*[999] * 39), (59,) + (30,) * 38 + (0,))
        self.assertEqual(census.many, math.comb(99, 40))

    def test_other_functions_count_the_same(self):
        chance = random.Random(156)
        for _ in range(60):
            net = Pipeline.row(*[chance.randint(1, 4) for _ in range(chance.randint(1, 4))])
            start = random_state(chance, net, 4)
            census = Census(net, start)
            for stage in range(net.stages):
                counters = [census.state_at(rank)[stage] for rank in range(census.many)]
                self.assertEqual(extent(net, start, stage), (min(counters), max(counters)))

    def test_in_the_mirror(self):
        chance = random.Random(157)
        for _ in range(80):
            net = Pipeline.row(*[chance.randint(1, 4) for _ in range(chance.randint(0, 5))])
            start = random_state(chance, net, 4)
            mirror = Census(net.mirrored(), mirror_state(net, start))
            census = Census(net, start)
            self.assertEqual(mirror.many, census.many)
            self.assertEqual(mirror_state(net, mirror.state_at(0)), census.state_at(census.many - 1))
            size = nearest_dead(net, start)[0]
            self.assertEqual(nearest_dead(net.mirrored(), mirror_state(net, start))[0], size)


class TestNearestDead(Case):
    """Point 57."""

    def test_small_rows(self):
        chance = random.Random(158)
        ties, sizes = 0, []
        for k in range(400):
            net = Pipeline.row(*[chance.randint(1, 4) for _ in range(k % 5)])
            start = random_state(chance, net, chance.choice((2, 4, 6)))
            if k % 2:
                start = tuple(sorted(start, reverse=True))
            found = search(net, start)
            dead = [(size, state) for state, size in found.items()
                    if not any([may_be_made(net, state, move) for move in moves_of(net)])]
            self.assertEqual(nearest_dead(net, start), min(dead))
            sizes.append(min(dead)[0])
            ties += [size for size, _ in dead].count(min(dead)[0]) > 1
            self.assertIs(is_dead(net, greatest(net, Box.full(net.stages), start)), True)
        self.assertGreater(ties, 20)
        self.assertGreater(len([size for size in sizes if size > 2]), 40)

    def test_a_dead_start(self):
        for net, state in ((ROW, (0, 0, 0)), (ROW, (9, 5, 0)), (ROW, (0, 1, 2)), (ROW, (0, 999, 0)),
                           (Pipeline(1), (5,))):
            self.assertEqual(nearest_dead(net, state), (0, state))


class TestErrors(Case):

    CALLS = (Census, nearest_dead)

    def test_the_start_comes_first(self):
        for start, position in ((None, None), ((2, 1), None), ((2, 1, 1000), 2), ((2, True, -1), 1), ([2, 1, 0], None)):
            for net in (ROW, Ring(1, 1, 1), Pipeline(3)):
                for call in self.CALLS:
                    self.fails(InvalidState, {"position": position}, call, net, start)

    def test_nets_that_are_no_rows(self):
        for net in (Ring(1, 1, 1), Pipeline(3), Pipeline(3, (0, 1)), Pipeline(3, (1, 2)), Pipeline(3, (0, 1), (0, 2)),
                    Pipeline(3, (0, 1), (1, 2), (0, 2)), Pipeline(3, (2, 1), (1, 0)), Pipeline(3, (0, 2), (2, 1)),
                    Pipeline(3, (0, 2), (1, 2))):
            for call in self.CALLS:
                self.fails(InvalidNet, {"reason": "row", "position": None}, call, net, (2, 1, 0))
                self.fails(InvalidNet, {"reason": "row", "position": None}, call, net, (999, 500, 0))

    def test_an_extent_of_60_and_of_61_counters(self):
        net = Pipeline.row(999, 999)
        self.assertEqual(Census(net, (59, 0, 0)).many, 60 * 61 * 62 // 6)
        self.assertEqual(nearest_dead(net, (59, 0, 0)), (59, (0, 0, 0)))
        self.assertEqual(Census(net, (999, 940, 940)).many, 60 * 61 * 62 // 6)
        for call in self.CALLS:
            self.fails(TooLarge, {"size": 61, "most": 60}, call, net, (60, 0, 0))
            self.fails(TooLarge, {"size": 61, "most": 60}, call, net, (999, 939, 939))
            self.fails(TooLarge, {"size": 1000, "most": 60}, call, net, (999, 500, 0))
            self.fails(TooLarge, {"size": 1000, "most": 60}, call, net, (999, 0, 0))
        # Only counters that are reached count.
        self.assertEqual(Census(Pipeline.row(999, 1), (0, 999, 5)).many, 1)
        self.assertEqual(nearest_dead(Pipeline.row(999, 1), (0, 999, 5)), (0, (0, 999, 5)))
        self.assertEqual(Census(Pipeline.row(1, 1), (999, 500, 0)).many, 1)

    def test_the_widest_extent_counts(self):
        net = Pipeline.row(999, 1, 999)
        start = (30, 30, 5, 5)
        self.assertEqual([extent(net, start, stage) for stage in range(4)], [(30, 30)] * 2 + [(5, 5)] * 2)
        self.assertEqual(Census(net, start).many, 1)
        start = (100, 30, 30, 9)
        sizes = [high - low + 1 for low, high in [extent(net, start, stage) for stage in range(4)]]
        self.assertEqual(max(sizes), 92)
        for call in self.CALLS:
            self.fails(TooLarge, {"size": 92, "most": 60}, call, net, start)
        # The last stage stays, since the channel to it is jammed.
        net, start = Pipeline.row(999, 1), (100, 30, 0)
        self.assertEqual([extent(net, start, stage) for stage in range(3)], [(30, 100), (30, 100), (0, 0)])
        for call in self.CALLS:
            self.fails(TooLarge, {"size": 71, "most": 60}, call, net, start)


class TestWholeProgram(Case):
    """Point 2, for rows."""

    def test_nothing_passed_is_changed_and_equal_calls_are_equal(self):
        for _ in range(2):
            net, start = Pipeline.row(2, 1), (2, 1, 0)
            census, other = Census(net, start), Census(ROW, START)
            self.assertEqual(census.many, other.many)
            self.assertEqual([census.state_at(rank) for rank in range(10)],
                             [other.state_at(rank) for rank in range(10)])
            self.assertEqual((net, start), (ROW, START))

    def test_kinds_of_results(self):
        census = Census(ROW, START)
        self.assertEqual((type(census.many), type(census.rank(START)), type(census.state_at(0))), (int, int, tuple))
        size, state = nearest_dead(ROW, START)
        self.assertEqual((type(nearest_dead(ROW, START)), type(size), type(state)), (tuple, int, tuple))

    def test_many_cannot_be_assigned(self):
        with self.assertRaises(AttributeError):
            Census(ROW, START).many = 5
