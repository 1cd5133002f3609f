"""withincall/twins.py: point 54 of the document."""

import random

from tests.common import (
    Case, behind, lively_case, long_net, may_be_made, moves_of, nearest_within, random_state, rough_case, search,
    small_net)
from withincall.errors import InvalidNet, InvalidState
from withincall.moves import can_move
from withincall.nets import Pipeline, Ring
from withincall.reach import distance
from withincall.states import mirror_state
from withincall.twins import alike, parting, same_shape

ROW = Pipeline.row(1, 1)
WIDER = Pipeline.row(2, 1)


def words_parting(net, other, start):
    """The answer by the words of point 54, found by going through all runs that both nets allow."""
    found = {start: 0}
    waiting = [start]
    for state in waiting:
        for move in moves_of(net):
            after = behind(state, move)
            if may_be_made(net, state, move) and may_be_made(other, state, move) and after not in found:
                found[after] = found[state] + 1
                waiting.append(after)
    parted = [(size, state, move) for state, size in found.items() for move in moves_of(net)
              if may_be_made(net, state, move) != may_be_made(other, state, move)]
    return min(parted, default=None)


def far_parting(net, other, start):
    """The answer, found by going through boxes: a parting move is allowed in the net with the wider channel only."""
    both = net.resized(*[min(one[2], two[2]) for one, two in zip(net.channels, other.channels)])
    found = []
    for move in moves_of(net):
        side = net.incoming(move[0]) if move[1] == "advance" else net.outgoing(move[0])
        for wide, narrow in ((net, other), (other, net)):
            for jammed in side:
                windows = {channel: (1, wide.channels[channel][2]) for channel in side}
                windows[jammed] = (narrow.channels[jammed][2] + 1, wide.channels[jammed][2])
                if windows[jammed][0] <= windows[jammed][1]:
                    near = nearest_within(both, start, move[0], windows)
                    found += [(*near, move)] if near else []
    return min(found, default=None)


def other_capacities(chance, net, changes):
    """The net with some capacities changed."""
    return net.resized(*[max(1, capacity + chance.choice(changes)) for _, _, capacity in net.channels])


class TestDocumentExample(Case):

    def test_all(self):
        self.assertEqual(parting(ROW, WIDER, (2, 1, 0)), (1, (2, 0, 0), (0, "rollback")))
        self.assertIs(alike(ROW, WIDER, (1, 1, 0)), True)


class TestSameShape(Case):

    def test_nets_of_one_shape(self):
        for net, other in ((ROW, WIDER), (ROW, ROW), (Pipeline(1), Pipeline(1)), (Ring(1, 2, 3), Ring(9, 9, 9)),
                           (Pipeline(3, (0, 2), (0, 1)), Pipeline(3, (0, 1, 5), (0, 2, 999)))):
            self.assertIs(same_shape(net, other), True)
            self.assertIs(same_shape(other, net), True)

    def test_nets_of_another_shape(self):
        ring = Ring(1, 1, 1)
        for net, other in ((ROW, Pipeline.row(1)), (ROW, Pipeline(3, (0, 1))), (ROW, Pipeline(3, (0, 1), (0, 2))),
                           (ROW, Pipeline(4, (0, 1), (1, 2))), (ring, ROW), (ring, Ring(1, 1, 1, 1)),
                           (ring, Pipeline(3, (0, 1), (1, 2), (0, 2))), (Pipeline(3), Pipeline(2)),
                           (Pipeline(2, (0, 1)), Pipeline(2, (1, 0))), (Pipeline(2, (0, 1)), Pipeline(2))):
            self.assertIs(same_shape(net, other), False)
            self.assertIs(same_shape(other, net), False)


class TestParting(Case):

    def test_already_in_the_start(self):
        self.assertEqual(parting(ROW, WIDER, (2, 0, 0)), (0, (2, 0, 0), (0, "rollback")))
        self.assertEqual(parting(WIDER, ROW, (2, 0, 0)), (0, (2, 0, 0), (0, "rollback")))
        # Stage 1 may advance in one net, and stage 1 may roll back in the other one.
        self.assertEqual(parting(Pipeline.row(2, 1), Pipeline.row(1, 2), (4, 2, 0)), (0, (4, 2, 0), (0, "rollback")))
        self.assertEqual(parting(Pipeline(4, (3, 1, 2), (1, 2, 1)), Pipeline(4, (3, 1, 1), (1, 2, 2)), (9, 2, 0, 4)),
                         (0, (9, 2, 0, 4), (1, "advance")))

    def test_of_several_states_the_first(self):
        # A load of 3 is reached by an advance of stage 1 or by a rollback of stage 2.
        net, other = Pipeline.row(9, 2, 9), Pipeline.row(9, 3, 9)
        self.assertEqual(parting(net, other, (9, 4, 2, 0)), (1, (9, 4, 1, 0), (1, "rollback")))
        # The advance only, since stage 2 cannot roll back.
        self.assertEqual(parting(net, other, (9, 4, 2, 2)), (1, (9, 5, 2, 2), (1, "rollback")))

    def test_of_several_moves_the_first(self):
        self.assertEqual(parting(Pipeline.row(9, 2, 9), Pipeline.row(9, 3, 9), (9, 5, 2, 0)),
                         (0, (9, 5, 2, 0), (1, "rollback")))
        # Stage 1 has another channel, which is not ready.
        net = Pipeline(5, (0, 1), (1, 2, 2), (2, 3), (1, 4), capacity=9)
        other = Pipeline(5, (0, 1), (1, 2, 3), (2, 3), (1, 4), capacity=9)
        self.assertEqual(parting(net, other, (9, 5, 2, 0, 5)), (0, (9, 5, 2, 0, 5), (2, "advance")))

    def test_a_channel_that_is_jammed_in_both_nets(self):
        self.assertIsNone(parting(ROW, WIDER, (3, 0, 0)))
        self.assertIsNone(parting(Pipeline.row(4, 1), Pipeline.row(3, 1), (5, 0, 0)))
        self.assertEqual(parting(Pipeline.row(4, 1), Pipeline.row(3, 1), (4, 0, 0)), (0, (4, 0, 0), (0, "rollback")))

    def test_a_move_that_each_net_blocks_for_another_reason(self):
        # Stage 2 would advance if both channels to it were as wide as in the net where they are wider.
        ends = ((0, 2), (0, 4), (1, 2), (1, 5), (2, 3))
        net = Pipeline(6, *ends).resized(2, 9, 4, 9, 1)
        other = Pipeline(6, *ends).resized(4, 9, 2, 9, 2)
        self.assertIsNone(parting(net, other, (3, 3, 0, 0, 3, 3)))
        self.assertIsNone(words_parting(net, other, (3, 3, 0, 0, 3, 3)))
        # Here both let it advance, twice.
        self.assertEqual(parting(net, other, (2, 2, 0, 0, 2, 2)), (2, (2, 2, 2, 0, 2, 2), (2, "rollback")))

    def test_alike_nets(self):
        for net, start in ((ROW, (2, 1, 0)), (Pipeline(3), (0, 9, 5)), (Ring(2, 2, 2), (4, 3, 2)), (Pipeline(1), (0,))):
            self.assertIsNone(parting(net, net, start))
            self.assertIs(alike(net, net, start), True)
        # The channel never holds enough.
        self.assertIsNone(parting(Pipeline.row(5), Pipeline.row(6), (5, 3)))
        self.assertIsNone(parting(Pipeline.row(5, 5), Pipeline.row(6, 999), (5, 3, 0)))
        self.assertIsNotNone(parting(Pipeline.row(5, 5), Pipeline.row(4, 999), (5, 3, 0)))

    def test_small_nets(self):
        chance = random.Random(141)
        sizes = []
        for k in range(900):
            if k % 3:
                net, start, _ = lively_case(chance, chance.choice((3, 4, 5)))
            else:
                net = small_net(chance)
                start = random_state(chance, net, chance.choice((2, 4, 6)))
            other = other_capacities(chance, net, (-1, 0, 0, 0, 1, 2))
            expected = words_parting(net, other, start)
            self.assertEqual(parting(net, other, start), expected)
            self.assertEqual(parting(other, net, start), expected)
            self.assertIs(alike(net, other, start), expected is None)
            sizes.append(None if expected is None else expected[0])
        for size in (None, 0, 1, 2, 3, 4):
            self.assertGreater(sizes.count(size), 5)

    def test_nets_of_five_and_six_stages(self):
        chance = random.Random(142)
        sizes = []
        for _ in range(60):
            stages = chance.choice((5, 6))
            net = Pipeline(stages, *[(a, b, chance.randint(1, 3)) for b in range(stages) for a in range(b)
                                     if b == a + 1 or chance.random() < 0.25])
            start = tuple(sorted([chance.randint(0, 4) for _ in range(stages)], reverse=True))
            if chance.random() < 0.4:
                start = tuple([max(0, counter + chance.choice((-1, 0, 1))) for counter in start])
            other = other_capacities(chance, net, (0, 0, 0, 1, -1))
            expected = words_parting(net, other, start)
            self.assertEqual(parting(net, other, start), expected)
            sizes.append(expected and expected[0])
        self.assertGreater(len([size for size in sizes if size]), 10)

    def test_far_states_of_rough_starts(self):
        chance = random.Random(146)
        sizes = []
        for k in range(90):
            most = (12, 25, 40)[k % 3]
            net, start = rough_case(chance, most, most // 2, most * 3 // 4, most)
            other = other_capacities(chance, net, (0, 0, 0, 1, 2, -2))
            expected = far_parting(net, other, start)
            self.assertEqual(parting(net, other, start), expected)
            sizes.append(expected[0] if expected else 0)
        self.assertGreater(len([size for size in sizes if size > 10]), 8)

    def test_two_ways_of_which_the_far_one_looks_better_at_first(self):
        for capacities, others, start, expected in (
                ((12, 6, 2, 12, 12, 12), (12, 6, 5, 12, 12, 11), (11, 1, 9, 8, 12, 3),
                 (8, (11, 1, 9, 6, 6, 3), (2, "rollback"))),
                ((30, 2, 2, 15, 15, 2, 2), (30, 2, 1, 14, 16, 2, 2), (24, 4, 9, 21, 24, 12, 7),
                 (33, (24, 23, 23, 21, 24, 12, 7), (2, "rollback"))),
                ((30, 30, 15, 15, 30, 15), (30, 30, 15, 15, 29, 14), (7, 28, 1, 23, 18, 19),
                 (7, (7, 28, 1, 23, 22, 22), (0, "advance"))),
                ((30, 30, 15, 15, 15, 15, 2), (29, 33, 15, 14, 14, 15, 5), (9, 13, 6, 4, 9, 1, 7),
                 (16, (4, 4, 4, 4, 9, 1, 7), (0, "advance")))):
            net, other = Ring(*capacities), Ring(*others)
            self.assertEqual(far_parting(net, other, start), expected)
            self.assertEqual(parting(net, other, start), expected)
            self.assertEqual(parting(other, net, start), expected)

    def test_the_same_distance_in_the_mirror(self):
        chance = random.Random(143)
        for _ in range(150):
            net, start, _ = lively_case(chance, 4)
            other = other_capacities(chance, net, (0, 0, 1, -1))
            found = parting(net, other, start)
            mirrored = parting(net.mirrored(), other.mirrored(), mirror_state(net, start))
            self.assertEqual(found and found[0], mirrored and mirrored[0])


class TestErrors(Case):

    def test_the_start_comes_before_the_shape(self):
        for start, position in ((None, None), ((2, 1), None), ((2, 1, 1000), 2), ((2, True, -1), 1), ([2, 1, 0], None)):
            for other in (WIDER, Pipeline(2), Ring(1, 1, 1)):
                self.fails(InvalidState, {"position": position}, parting, ROW, other, start)
                self.fails(InvalidState, {"position": position}, alike, ROW, other, start)

    def test_nets_of_another_shape(self):
        for other in (Pipeline(2), Ring(1, 1, 1), Pipeline.row(1, 1, 1), Pipeline(3, (0, 1))):
            self.fails(InvalidNet, {"reason": "shape", "position": None}, parting, ROW, other, (2, 1, 0))
            self.fails(InvalidNet, {"reason": "shape", "position": None}, alike, ROW, other, (2, 1, 0))
        # The start is a state of the first net.
        self.fails(InvalidState, {"position": None}, parting, ROW, Pipeline.row(1), (2, 1))
        self.fails(InvalidNet, {"reason": "shape", "position": None}, parting, Pipeline.row(1), ROW, (2, 1))


class TestWork(Case):

    def check(self, net, other, start):
        """A state that is returned parts the nets, and is reached by a run of this length that both allow."""
        found = self.quick(parting, net, other, start)
        if found is not None:
            size, state, move = found
            both = net.resized(*[min(one[2], two[2]) for one, two in zip(net.channels, other.channels)])
            self.assertEqual(distance(both, start, state), size)
            self.assertIsNot(can_move(net, state, move), can_move(other, state, move))
        return found

    def test_large_nets(self):
        chance = random.Random(144)
        starts = [tuple(range(999, 959, -1)), (999,) * 20 + (0,) * 20, (500,) * 40, tuple(range(999, -1, -25)),
                  tuple([chance.randint(0, 999) for _ in range(40)]), (999,) + (500,) * 38 + (0,),
                  tuple(range(0, 1000, 25)),
                  tuple([min(999, max(0, 980 - 24 * k + chance.randint(-40, 40))) for k in range(40)])]
        sizes = []
        for capacity in (1, 50, 300, 500, 998):
            for net, other in ((long_net(capacity=capacity), long_net(capacity=capacity + 1)),
                               (Ring(*[capacity] * 40), Ring(*[capacity + 1] * 40)),
                               (Pipeline.row(*[capacity] * 39), Pipeline.row(*[capacity + 1] * 39))):
                for start in starts:
                    found = self.check(net, other, start)
                    sizes.append(found and found[0])
        self.assertGreater(len([size for size in sizes if size]), 20)
        self.assertGreater(max([size for size in sizes if size]), 2000)

    def test_many_equal_ways(self):
        # All channels are alike, so all of them have to be looked at.
        pairs = [pair for k in range(13) for pair in ((3 * k, 3 * k + 1), (3 * k + 1, 3 * k + 2))]
        net = Pipeline(39, *pairs, capacity=700)
        start = (999, 500, 0) * 13
        found = self.check(net, net.resized(*[701] * 26), start)
        self.assertEqual(found, (201, (999, 500, 0) * 12 + (999, 701, 0), (37, "rollback")))
        start = (999, 499, 0) * 13
        found = self.check(net, net.resized(*[701] * 26), start)
        self.assertEqual(found, (201, (999, 298, 0) + (999, 499, 0) * 12, (0, "rollback")))


class TestWholeProgram(Case):
    """Point 2, for two nets."""

    def test_nothing_passed_is_changed_and_equal_calls_are_equal(self):
        for _ in range(2):
            net, other, start = Pipeline.row(1, 1), Pipeline.row(2, 1), (2, 1, 0)
            self.assertEqual(parting(net, other, start), (1, (2, 0, 0), (0, "rollback")))
            self.assertEqual((net, other, start), (ROW, WIDER, (2, 1, 0)))

    def test_kinds_of_results(self):
        size, state, move = parting(ROW, WIDER, (2, 1, 0))
        self.assertEqual((type(size), type(state), type(move)), (int, tuple, tuple))
        self.assertIs(type(parting(ROW, WIDER, (2, 1, 0))), tuple)

    def test_alike_nets_lead_to_the_same_states(self):
        chance = random.Random(145)
        for _ in range(100):
            net, start, found = lively_case(chance, 4)
            other = other_capacities(chance, net, (0, 0, 0, 1, 2))
            if alike(net, other, start):
                self.assertEqual(search(other, start), found)
