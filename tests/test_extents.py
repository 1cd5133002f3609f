"""withincall/extents.py: point 32 of the document."""

import random

from tests.common import (
    NEVER_MOVES, NEVER_NUMBERS, Case, behind, long_net, may_be_made, moves_of, nearest_within, random_state, rough_case,
    search, small_net)
from withincall.errors import InvalidMove, InvalidState, NotFound
from withincall.extents import extent, gap_extent, live_moves, soonest
from withincall.moves import can_move
from withincall.nets import Pipeline, Ring
from withincall.reach import distance, reaches

ROW = Pipeline.row(2, 1)


class TestDocumentExample(Case):

    def test_all(self):
        found = [extent(ROW, (2, 1, 0), 1), gap_extent(ROW, (2, 1, 0), 0, 1), soonest(ROW, (1, 1, 0), (2, "advance"))]
        self.assertEqual(found, [(0, 2), (0, 2), (0, (1, 1, 0))])


class TestSmallNets(Case):
    """Each answer agrees with a search over allowed moves."""

    def setUp(self):
        chance = random.Random(81)
        self.rows = []
        for _ in range(250):
            net = small_net(chance)
            start = random_state(chance, net, chance.choice((2, 3, 4)))
            self.rows.append((net, start, search(net, start)))

    def test_extents(self):
        for net, start, found in self.rows:
            for stage in range(net.stages):
                counters = [state[stage] for state in found]
                self.assertEqual(extent(net, start, stage), (min(counters), max(counters)))

    def test_gap_extents(self):
        for net, start, found in self.rows:
            for first in range(net.stages):
                for second in range(net.stages):
                    gaps = [state[first] - state[second] for state in found]
                    self.assertEqual(gap_extent(net, start, first, second), (min(gaps), max(gaps)))

    def test_soonest_states_and_live_moves(self):
        several = 0
        for net, start, found in self.rows:
            live = []
            for move in moves_of(net):
                allowed = [(size, state) for state, size in found.items() if may_be_made(net, state, move)]
                if allowed:
                    live.append(move)
                    several += [size for size, _ in allowed].count(min(allowed)[0]) > 1
                self.assertEqual(soonest(net, start, move), min(allowed) if allowed else None)
            self.assertEqual(live_moves(net, start), tuple(live))
        self.assertGreater(several, 10)


class TestExtents(Case):

    def test_states_in_which_nothing_moves(self):
        for net, start in ((Pipeline(3), (5, 0, 999)), (ROW, (0, 0, 0)), (ROW, (0, 9, 99)), (Ring(1, 1, 1), (7, 7, 7))):
            for stage in range(3):
                self.assertEqual(extent(net, start, stage), (start[stage], start[stage]))
                for other in range(3):
                    gap = start[stage] - start[other]
                    self.assertEqual(gap_extent(net, start, stage, other), (gap, gap))
            self.assertEqual(live_moves(net, start), ())

    def test_the_whole_range(self):
        net = Pipeline.row(999, 999)
        self.assertEqual([extent(net, (999, 0, 0), stage) for stage in range(3)], [(0, 999), (0, 999), (0, 999)])
        self.assertEqual(gap_extent(net, (999, 0, 0), 0, 2), (0, 999))
        self.assertEqual(gap_extent(net, (999, 0, 0), 2, 0), (-999, 0))
        self.assertEqual([extent(Ring(9, 9, 9), (2, 1, 0), stage) for stage in range(3)], [(0, 2), (0, 2), (0, 2)])

    def test_both_stages_the_same(self):
        for net, start in ((ROW, (2, 1, 0)), (Pipeline(1), (999,)), (Ring(9, 9, 9), (2, 1, 0)), (ROW, (0, 9, 99))):
            for stage in range(net.stages):
                self.assertEqual(gap_extent(net, start, stage, stage), (0, 0))

    def test_stages_that_no_path_joins(self):
        net = Pipeline(4, (0, 1, 9), (2, 3, 9))
        self.assertEqual(gap_extent(net, (5, 0, 7, 3), 0, 2), (-7, 2))
        self.assertEqual(gap_extent(net, (5, 0, 7, 3), 1, 2), (-7, 2))
        self.assertEqual(gap_extent(net, (5, 0, 7, 3), 0, 3), (-7, 2))

    def test_a_gap_that_is_widest_within_the_extents(self):
        # Stage 1 is above stage 0 by 3 only where both have the counters of the start.
        net = Pipeline(4, (0, 1, 9), (1, 2, 9), (3, 0, 9))
        start = (3, 6, 0, 8)
        self.assertEqual([extent(net, start, 0), extent(net, start, 1)], [(0, 8), (0, 8)])
        self.assertEqual(gap_extent(net, start, 1, 0), (-8, 3))
        gaps = {state[1] - state[0] for state in search(net, start)}
        self.assertEqual((min(gaps), max(gaps)), (-8, 3))

    def test_the_opposite_gap(self):
        chance = random.Random(82)
        for _ in range(50):
            net = small_net(chance)
            start = random_state(chance, net, 5)
            first, second = chance.randrange(net.stages), chance.randrange(net.stages)
            low, high = gap_extent(net, start, first, second)
            self.assertEqual(gap_extent(net, start, second, first), (-high, -low))


class TestSoonest(Case):

    def test_moves_that_no_reached_state_allows(self):
        for net, start, move in ((ROW, (2, 1, 0), (0, "advance")), (ROW, (2, 1, 0), (2, "rollback")),
                                 (Pipeline(1), (5,), (0, "advance")), (Pipeline(1), (5,), (0, "rollback")),
                                 (ROW, (0, 0, 0), (1, "advance")), (ROW, (9, 1, 0), (1, "advance")),
                                 (Ring(1, 1, 1), (2, 2, 2), (0, "advance")), (ROW, (1, 3, 9), (2, "advance"))):
            self.assertIsNone(soonest(net, start, move))
            self.assertNotIn(move, live_moves(net, start))

    def test_a_move_that_is_allowed_in_the_start(self):
        for move in ((0, "rollback"), (1, "advance"), (1, "rollback"), (2, "advance")):
            self.assertEqual(soonest(ROW, (2, 1, 0), move), (0, (2, 1, 0)))
        self.assertEqual(live_moves(ROW, (2, 1, 0)), ((0, "rollback"), (1, "advance"), (1, "rollback"), (2, "advance")))

    def test_of_several_soonest_states_the_first_one(self):
        # Stage 1 may come down by one, or stage 2 may go up by one.
        net = Pipeline.row(9, 9, 9)
        self.assertEqual(soonest(net, (9, 5, 4, 4), (3, "advance")), (1, (9, 5, 5, 4)))
        # One more item for stage 1, or one less for stage 3: both allow the advance of stage 3.
        net = Pipeline(4, (0, 1, 9), (1, 3, 9), (3, 2, 9))
        start = (5, 3, 1, 3)
        self.assertEqual(soonest(net, start, (3, "advance")), (1, (5, 3, 1, 2)))
        allowed = [state for state, size in search(net, start).items()
                   if size == 1 and may_be_made(net, state, (3, "advance"))]
        self.assertEqual(sorted(allowed), [(5, 3, 1, 2), (5, 4, 1, 3)])
        # The same for a rollback: one item less for stage 2, or one more for stage 1.
        net = Pipeline(4, (0, 1, 9), (1, 2, 9), (2, 3, 9))
        start = (5, 3, 3, 1)
        self.assertEqual(soonest(net, start, (1, "rollback")), (1, (5, 3, 2, 1)))

    def test_far_soonest_states_of_rough_starts(self):
        chance = random.Random(85)
        sizes = []
        for k in range(150):
            most = (12, 40, 90)[k % 3]
            net, start = rough_case(chance, most, 3, most // 3, most // 2, most, most)
            for move in chance.sample(moves_of(net), 4):
                side = net.incoming(move[0]) if move[1] == "advance" else net.outgoing(move[0])
                windows = {channel: (1, net.channels[channel][2]) for channel in side}
                expected = nearest_within(net, start, move[0], windows) if side else None
                self.assertEqual(soonest(net, start, move), expected)
                sizes.append(expected[0] if expected else 0)
        self.assertGreater(len([size for size in sizes if size > 20]), 10)

    def test_two_ways_of_which_the_far_one_looks_better_at_first(self):
        ring = Ring(6, 6, 2, 6, 12, 12, 6)
        net = Pipeline(7, (0, 1, 15), (0, 2, 30), (0, 3, 15), (0, 4, 15), (0, 6, 15), (1, 3, 30), (1, 5, 15),
                       (2, 4, 30),
                       (2, 5, 30), (3, 4, 30), (3, 5, 15), (4, 5, 2), (5, 6, 30))
        for other, start, move, expected in (
                (ring, (11, 6, 2, 7, 8, 1, 11), (2, "rollback"), (8, (11, 8, 8, 7, 8, 1, 11))),
                (ring, (11, 6, 2, 7, 8, 1, 11), (3, "advance"), (8, (11, 8, 8, 7, 8, 1, 11))),
                (Ring(30, 15, 2, 2, 30, 15, 15), (9, 5, 16, 18, 21, 13, 22), (2, "rollback"),
                 (9, (9, 5, 16, 15, 15, 13, 22))),
                (Ring(2, 2, 12, 12, 2, 12, 6), (2, 4, 9, 2, 3, 7, 1), (0, "rollback"), (7, (5, 4, 9, 2, 3, 7, 5))),
                (net, (13, 5, 12, 1, 11, 26, 1), (4, "advance"), (18, (13, 12, 12, 12, 11, 26, 1)))):
            side = other.incoming(move[0]) if move[1] == "advance" else other.outgoing(move[0])
            windows = {channel: (1, other.channels[channel][2]) for channel in side}
            self.assertEqual(nearest_within(other, start, move[0], windows), expected)
            self.assertEqual(soonest(other, start, move), expected)

    def test_it_is_a_pair_of_a_distance_and_a_reached_state(self):
        chance = random.Random(83)
        for _ in range(50):
            net = small_net(chance)
            start = random_state(chance, net, 5)
            for move in live_moves(net, start):
                size, state = soonest(net, start, move)
                self.assertEqual(distance(net, start, state), size)
                self.assertIs(can_move(net, state, move), True)
                self.assertIs(reaches(net, start, behind(state, move)), True)


class TestErrors(Case):

    BAD_STATES = ((None, None), ((2, 1), None), ((2, 1, 1000), 2), ((2, True, -1), 1), ("210", None))

    def test_the_state_comes_first(self):
        for state, position in self.BAD_STATES:
            for call, args in ((extent, (0,)), (extent, (9,)), (gap_extent, (0, 1)), (gap_extent, (9, None)),
                               (soonest, ((0, "advance"),)), (soonest, (None,)), (live_moves, ())):
                self.fails(InvalidState, {"position": position}, call, ROW, state, *args)

    def test_no_stages(self):
        for value in (*NEVER_NUMBERS, 3, 4, 40, 999):
            self.fails(NotFound, {"number": value}, extent, ROW, (2, 1, 0), value)
            self.fails(NotFound, {"number": value}, gap_extent, ROW, (2, 1, 0), value, 0)
            self.fails(NotFound, {"number": value}, gap_extent, ROW, (2, 1, 0), 0, value)
            self.fails(NotFound, {"number": value}, gap_extent, ROW, (2, 1, 0), value, 9)
            self.fails(NotFound, {"number": value}, gap_extent, ROW, (2, 1, 0), value, value)

    def test_no_moves(self):
        for value in (*NEVER_MOVES, (3, "advance")):
            self.fails(InvalidMove, {}, soonest, ROW, (2, 1, 0), value)


class TestWork(Case):

    def test_large_nets(self):
        chance = random.Random(84)
        starts = [tuple(range(999, 959, -1)), tuple(range(0, 1000, 25)), tuple(range(999, -1, -25)),
                  tuple([chance.randint(0, 999) for _ in range(40)]), (0,) + (999,) * 39, (999,) * 39 + (0,),
                  tuple([chance.choice((0, 999)) for _ in range(40)])]
        for net in (long_net(), long_net(capacity=1), Ring(*[999] * 40), Ring(*[1] * 40)):
            for start in starts:
                live = self.quick(live_moves, net, start)
                for stage in (0, 1, 20, 39):
                    low, high = self.quick(extent, net, start, stage)
                    self.assertLessEqual(low, start[stage])
                    self.assertGreaterEqual(high, start[stage])
                    least_gap, greatest_gap = self.quick(gap_extent, net, start, stage, 7)
                    self.assertLessEqual(least_gap, start[stage] - start[7])
                    self.assertGreaterEqual(greatest_gap, start[stage] - start[7])
                    for kind in ("advance", "rollback"):
                        found = self.quick(soonest, net, start, (stage, kind))
                        self.assertEqual(found is not None, (stage, kind) in live)
                        if found is not None:
                            self.assertEqual(distance(net, start, found[1]), found[0])
                            self.assertIs(can_move(net, found[1], (stage, kind)), True)

    def test_a_soonest_state_far_away(self):
        # Stage 39 is a sink and cannot come down, so all of its producers have to come up.
        pairs = [pair for stage in range(1, 39) for pair in ((0, stage), (stage, 39))]
        net = Pipeline(40, *pairs, capacity=999)
        start = (999,) + (0,) * 39
        self.assertEqual(self.quick(soonest, net, start, (39, "advance")), (38, (999,) + (1,) * 38 + (0,)))
        start = (999,) + (5,) * 38 + (900,)
        self.assertEqual(self.quick(soonest, net, start, (39, "advance")), (38 * 896, (999,) + (901,) * 38 + (900,)))


class TestWholeProgram(Case):
    """Point 2, for extents."""

    def test_nothing_passed_is_changed_and_equal_calls_are_equal(self):
        for _ in range(2):
            net, start = Pipeline.row(2, 1), (2, 1, 0)
            self.assertEqual(extent(net, start, 1), (0, 2))
            self.assertEqual(gap_extent(net, start, 0, 2), gap_extent(ROW, (2, 1, 0), 0, 2))
            self.assertEqual(soonest(net, start, (2, "advance")), (0, (2, 1, 0)))
            self.assertEqual(live_moves(net, start), live_moves(ROW, (2, 1, 0)))
            self.assertEqual((net, start), (ROW, (2, 1, 0)))

    def test_rows_of_results_are_tuples(self):
        for net in (ROW, Ring(1, 1, 1), Pipeline(3)):
            start = (2, 1, 0)
            for row in (extent(net, start, 0), gap_extent(net, start, 0, 1), live_moves(net, start),
                        *live_moves(net, start)):
                self.assertIs(type(row), tuple)
        size, state = soonest(ROW, (2, 1, 0), (2, "advance"))
        self.assertIs(type(soonest(ROW, (2, 1, 0), (2, "advance"))), tuple)
        self.assertEqual((type(size), type(state)), (int, tuple))
