"""withincall/recovery.py: points 33 to 37 of the document."""

import itertools
import random

from tests.common import (
    NEVER_NUMBERS, SAME, Case, all_states, long_net, random_nets, random_state, search, small_net)
from withincall.errors import InvalidState, NotFound, Unreachable, Unrecoverable
from withincall.nets import Pipeline, Ring
from withincall.reach import distance, objections
from withincall.recovery import (
    cheapest, conflicts, cost_certificate, is_recoverable, may_fall, may_rise, replay_line, rollback_line,
    shown_cost)
from withincall.states import is_clean, mirror_state

ROW = Pipeline.row(5, 5, 5)
STATE = (5, 2, 4, 1)
STUCK = Pipeline.row(1, 1, 1)


def paths(net):
    """All pairs of different stages of which the first one is upstream of the second."""
    found = {(a, b) for a, b, _ in net.channels}
    while True:
        more = found | {(a, d) for (a, b), (c, d) in itertools.product(found, found) if b == c}
        if more == found:
            return {(a, b) for a, b in found if a != b}
        found = more


def words_rise(net, state, stage):
    side = [(a, b, c) for a, b, c in net.channels if b == stage]
    return side != [] and all(state[a] - state[b] <= c for a, b, c in side)


def words_fall(net, state, stage):
    side = [(a, b, c) for a, b, c in net.channels if a == stage]
    return side != [] and all(state[a] - state[b] <= c for a, b, c in side)


def words_conflicts(net, state):
    return tuple(sorted((a, b) for a, b in paths(net) if state[a] < state[b]))


def words_cost(net, state, certificate):
    """The shown cost by the words of point 37, or None; the certificate is made of tuples of integers."""
    before = 0
    cost = 0
    for first, last, pairs in certificate:
        if not before < first <= last <= 999 or pairs == () or list(pairs) != sorted(set(pairs)):
            return None
        for earlier, later in pairs:
            if (earlier, later) not in words_conflicts(net, state):
                return None
            if any(state[earlier] >= item or state[later] < item for item in range(first, last + 1)):
                return None
        for stage in range(net.stages):
            if words_rise(net, state, stage) and [pair[0] for pair in pairs].count(stage) > 1:
                return None
            if words_fall(net, state, stage) and [pair[1] for pair in pairs].count(stage) > 1:
                return None
        before = last
        cost += (last - first + 1) * len(pairs)
    return cost


class TestDocumentExamples(Case):

    def test_a_row(self):
        found = [conflicts(ROW, STATE), cheapest(ROW, STATE), rollback_line(ROW, STATE),
                 shown_cost(ROW, STATE, ((3, 4, ((1, 2),)),))]
        self.assertEqual(found, [((1, 2),), (5, 4, 4, 1), (5, 2, 2, 1), 2])

    def test_a_state_that_is_not_recoverable(self):
        state = (2, 0, 3, 0)
        self.assertEqual(conflicts(STUCK, state), ((0, 2), (1, 2)))
        self.assertEqual([may_rise(STUCK, state, stage) for stage in range(4)], [False, False, True, False])
        self.assertEqual([may_fall(STUCK, state, stage) for stage in range(4)], [False, True, False, False])
        self.assertIs(is_recoverable(STUCK, state), False)
        self.fails(Unrecoverable, {"conflict": (0, 2)}, cheapest, STUCK, state)
        self.fails(Unrecoverable, {"conflict": (0, 2)}, cost_certificate, STUCK, state)


class TestConflicts(Case):
    """Point 33."""

    def test_pairs_that_no_channel_joins(self):
        self.assertEqual(conflicts(ROW, (0, 3, 3, 1)), ((0, 1), (0, 2), (0, 3)))
        self.assertEqual(conflicts(ROW, (0, 1, 2, 3)), ((0, 1), (0, 2), (0, 3), (1, 2), (1, 3), (2, 3)))
        self.assertEqual(conflicts(ROW, (3, 3, 3, 3)), ())
        self.assertEqual(conflicts(ROW, (3, 2, 1, 0)), ())
        self.assertEqual(conflicts(Pipeline(3), (0, 9, 99)), ())
        self.assertEqual(conflicts(Pipeline(3, (2, 0), (0, 1)), (3, 4, 2)), ((0, 1), (2, 0), (2, 1)))

    def test_rings(self):
        self.assertEqual(conflicts(Ring(1, 1, 1), (1, 2, 0)), ((0, 1), (2, 0), (2, 1)))
        self.assertEqual(conflicts(Ring(1, 1, 1), (4, 4, 4)), ())

    def test_against_the_words(self):
        chance = random.Random(91)
        for net in random_nets():
            for _ in range(4):
                state = random_state(chance, net, chance.choice((1, 4, 9)))
                found = conflicts(net, state)
                self.assertEqual(found, words_conflicts(net, state))
                self.assertIs(is_clean(net, state), found == ())
                for stage in range(net.stages):
                    self.assertIs(may_rise(net, state, stage), words_rise(net, state, stage))
                    self.assertIs(may_fall(net, state, stage), words_fall(net, state, stage))

    def test_a_full_channel_is_not_jammed(self):
        net = Pipeline.row(2, 2)
        for state, rises, falls in (((2, 0, 0), True, True), ((3, 0, 0), False, True), ((3, 1, 0), True, True),
                                    ((3, 3, 0), True, False), ((0, 9, 9), True, True)):
            self.assertIs(may_rise(net, state, 1), rises)
            self.assertIs(may_fall(net, state, 1), falls)

    def test_sources_sinks_and_single_stages(self):
        for state in ((0, 0, 0), (2, 1, 0), (0, 1, 2)):
            self.assertIs(may_rise(Pipeline.row(2, 2), state, 0), False)
            self.assertIs(may_fall(Pipeline.row(2, 2), state, 2), False)
            for stage in range(3):
                self.assertIs(may_rise(Pipeline(3), state, stage), False)
                self.assertIs(may_fall(Pipeline(3), state, stage), False)

    def test_stages_that_may_not_move_stay(self):
        chance = random.Random(92)
        for _ in range(150):
            net = small_net(chance)
            state = random_state(chance, net, 4)
            for reached in search(net, state):
                for stage in range(net.stages):
                    self.assertTrue(reached[stage] <= state[stage] or may_rise(net, state, stage))
                    self.assertTrue(reached[stage] >= state[stage] or may_fall(net, state, stage))


class TestLines(Case):
    """Point 34."""

    def test_ordinary_lines(self):
        self.assertEqual(rollback_line(ROW, STATE), (5, 2, 2, 1))
        self.assertEqual(replay_line(ROW, STATE), (5, 4, 4, 1))
        net = Pipeline(5, (0, 2, 9), (1, 2, 9), (2, 3, 9), (2, 4, 9))
        self.assertEqual(rollback_line(net, (5, 3, 4, 3, 3)), (5, 3, 3, 3, 3))
        self.assertEqual(replay_line(net, (5, 5, 4, 5, 2)), (5, 5, 5, 5, 2))

    def test_clean_states_are_their_own_lines(self):
        for net, state in ((ROW, (5, 4, 3, 2)), (STUCK, (9, 5, 5, 0)), (Pipeline(2), (0, 9)),
                           (Ring(1, 1, 1), (3, 3, 3)),
                           (Pipeline(1), (7,))):
            self.assertEqual(rollback_line(net, state), state)
            self.assertEqual(replay_line(net, state), state)

    def test_lines_that_are_not_reached(self):
        # A sink cannot roll back, and a source cannot advance.
        self.fails(Unreachable, {"objection": ("sink", 1)}, rollback_line, Pipeline.row(9), (2, 5))
        self.fails(Unreachable, {"objection": ("source", 0)}, replay_line, Pipeline.row(9), (2, 5))
        # Of several objections the first one is carried.
        self.fails(Unreachable, {"objection": ("jammed", 1)}, rollback_line, Pipeline.row(9, 1, 1), (0, 5, 3, 4))
        self.fails(Unreachable, {"objection": ("jammed", 0)}, replay_line, Pipeline.row(1, 9, 9), (4, 0, 2, 9))
        self.assertEqual(objections(Pipeline.row(9, 1, 1), (0, 5, 3, 4), (0, 0, 0, 0)), (("jammed", 1), ("sink", 3)))

    def test_rings(self):
        ring = Ring(9, 9, 9)
        self.assertEqual(rollback_line(ring, (3, 5, 4)), (3, 3, 3))
        self.assertEqual(replay_line(ring, (3, 5, 4)), (5, 5, 5))
        self.fails(Unreachable, {"objection": ("jammed", 1)}, rollback_line, Ring(1, 1, 1), (3, 5, 3))
        self.fails(Unreachable, {"objection": ("jammed", 1)}, replay_line, Ring(1, 1, 1), (3, 5, 3))

    def test_small_nets(self):
        chance = random.Random(93)
        met = {True: 0, False: 0}
        for _ in range(150):
            net = small_net(chance)
            state = random_state(chance, net, 3)
            clean = [other for other in all_states(net, 3) if is_clean(net, other)]
            below = [other for other in clean if all(a <= b for a, b in zip(other, state))]
            above = [other for other in clean if all(a >= b for a, b in zip(other, state))]
            reached = search(net, state)
            for call, line in ((rollback_line, tuple(map(max, *below, below[0]))),
                               (replay_line, tuple(map(min, *above, above[0])))):
                self.assertIn(line, below + above)
                met[line in reached] += 1
                if line in reached:
                    self.assertEqual(call(net, state), line)
                else:
                    self.fails(Unreachable, {"objection": objections(net, state, line)[0]}, call, net, state)
        self.assertGreater(min(met.values()), 50)

    def test_mirrored(self):
        chance = random.Random(94)
        for net in random_nets()[:60]:
            state = random_state(chance, net)
            self.assertEqual(len(conflicts(net, state)), len(conflicts(net.mirrored(), mirror_state(net, state))))
            try:
                line = rollback_line(net, state)
            except Unreachable:
                with self.assertRaises(Unreachable):
                    replay_line(net.mirrored(), mirror_state(net, state))
            else:
                self.assertEqual(replay_line(net.mirrored(), mirror_state(net, state)), mirror_state(net, line))


class TestCheapest(Case):
    """Points 35 and 36, and the certificate of point 37."""

    def check(self, net, state, line, cost):
        self.assertIs(is_recoverable(net, state), True)
        self.assertEqual(cheapest(net, state), line)
        self.assertEqual(distance(net, state, line), cost)
        certificate = cost_certificate(net, state)
        self.assertEqual(shown_cost(net, state, certificate), cost)
        self.assertEqual(words_cost(net, state, certificate), cost)

    def test_clean_states(self):
        for net, state in ((ROW, (5, 4, 3, 2)), (STUCK, (9, 5, 5, 0)), (Pipeline(2), (0, 9)),
                           (Ring(1, 1, 1), (3, 3, 3)),
                           (Pipeline(1), (7,)), (ROW, (0, 0, 0, 0)), (ROW, (999, 999, 999, 999))):
            self.check(net, state, state, 0)
            self.assertEqual(cost_certificate(net, state), ())

    def test_of_several_the_greatest(self):
        self.check(ROW, (9, 4, 5, 5), (9, 5, 5, 5), 1)
        self.check(ROW, (9, 4, 5, 0), (9, 5, 5, 0), 1)
        # Two below one, and one below two: the fewer ones move.
        self.check(ROW, (9, 4, 4, 7), (9, 7, 7, 7), 6)
        self.check(Pipeline.row(9, 9, 9, 9), (9, 4, 4, 7, 0), (9, 4, 4, 4, 0), 3)
        self.check(Pipeline.row(9, 9, 9, 9), (9, 4, 7, 7, 0), (9, 7, 7, 7, 0), 3)

    def test_some_items_rise_and_others_fall(self):
        # Items 4 and 5 are cheaper to give to stage 1 alone, items 6 and 7 to take from stage 3 alone.
        net = Pipeline.row(9, 9, 9, 9)
        self.check(net, (9, 3, 5, 7, 0), (9, 5, 5, 5, 0), 4)

    def test_stages_that_may_not_move(self):
        # Stage 1 cannot rise, since the channel to it is jammed; so stage 2 falls.
        self.check(Pipeline.row(1, 9, 9), (9, 4, 7, 0), (9, 4, 4, 0), 3)
        # Stage 2 cannot fall, since the channel from it is jammed; so stage 1 rises.
        self.check(Pipeline.row(9, 9, 1), (9, 4, 7, 0), (9, 7, 7, 0), 3)
        self.fails(Unrecoverable, {"conflict": (1, 2)}, cheapest, Pipeline.row(1, 9, 1), (9, 4, 7, 0))

    def test_rings(self):
        ring = Ring(9, 9, 9, 9)
        self.check(ring, (3, 5, 5, 5), (5, 5, 5, 5), 2)
        self.check(ring, (3, 3, 3, 5), (3, 3, 3, 3), 2)
        self.check(ring, (3, 3, 5, 5), (5, 5, 5, 5), 4)
        self.check(ring, (3, 4, 6, 6), (6, 6, 6, 6), 5)

    def test_the_first_conflict_is_carried(self):
        net = Pipeline(6, (4, 5, 9), (0, 3, 9), (1, 2, 9))
        self.fails(Unrecoverable, {"conflict": (0, 3)}, cheapest, net, (3, 5, 9, 4, 0, 2))
        self.fails(Unrecoverable, {"conflict": (0, 3)}, cost_certificate, net, (3, 5, 9, 4, 0, 2))
        self.fails(Unrecoverable, {"conflict": (4, 5)}, cheapest, net, (4, 9, 9, 4, 0, 2))
        # The conflict (0, 1) can be ended, (0, 2) cannot.
        self.fails(Unrecoverable, {"conflict": (0, 2)}, cheapest, Pipeline.row(9, 9), (3, 5, 4))
        self.assertEqual(conflicts(Pipeline.row(9, 9), (3, 5, 4)), ((0, 1), (0, 2)))

    def test_small_nets(self):
        chance = random.Random(95)
        costs = []
        for _ in range(500):
            net = small_net(chance)
            state = random_state(chance, net, chance.choice((2, 3, 5)))
            clean = {other: size for other, size in search(net, state).items() if is_clean(net, other)}
            if clean:
                cost = min(clean.values())
                best = [other for other in clean if clean[other] == cost]
                self.check(net, state, tuple(map(max, *best, best[0])), cost)
                costs.append(cost)
            else:
                self.assertIs(is_recoverable(net, state), False)
                fixed = [(a, b) for a, b in words_conflicts(net, state)
                         if not words_rise(net, state, a) and not words_fall(net, state, b)]
                for call in (cheapest, cost_certificate):
                    self.fails(Unrecoverable, {"conflict": fixed[0]}, call, net, state)
        self.assertGreater(len([cost for cost in costs if cost > 2]), 20)
        self.assertGreater(500 - len(costs), 50)

    def layers(self, chance, firsts, lasts):
        """A net in which random channels lead from some stages to others. All of these may rise and fall."""
        givers = range(1, 1 + firsts)
        takers = range(1 + firsts, 1 + firsts + lasts)
        last = 1 + firsts + lasts
        ends = [(0, giver) for giver in givers] + [(taker, last) for taker in takers]
        ends += [(giver, taker) for giver in givers for taker in takers if chance.random() < 0.45]
        return Pipeline(last + 1, *ends, capacity=999)

    def check_layers(self, net, state, most):
        """The recovery is the greatest cheapest one of all clean states up to the highest counter."""
        choices = {}
        for middle in all_states(Pipeline(net.stages - 2), most):
            line = (state[0], *middle, state[-1])
            if all([line[a] >= line[b] for a, b, _ in net.channels]):
                choices.setdefault(sum(abs(a - b) for a, b in zip(line, state)), []).append(line)
        best = choices[min(choices)]
        self.check(net, state, tuple(map(max, *best, best[0])), min(choices))

    def test_chains_of_conflicts(self):
        # Stage 1 is in conflict with stage 4, stage 2 with 4 and 5, stage 3 with 5 and 6, and so on.
        for many in (2, 3, 4):
            ends = [(0, 1 + k) for k in range(many)] + [(1 + many + k, 1 + 2 * many) for k in range(many)]
            straight = [(1 + k, 1 + many + k) for k in range(many)]
            for slanted in ([(2 + k, 1 + many + k) for k in range(many - 1)],
                            [(1 + k, 2 + many + k) for k in range(many - 1)]):
                net = Pipeline(2 + 2 * many, *ends, *straight, *slanted, capacity=999)
                state = (7, *[0] * many, *[1] * many, 0)
                self.check_layers(net, state, 1)
                self.assertEqual(distance(net, state, cheapest(net, state)), many)

    def test_layers(self):
        chance = random.Random(90)
        for _ in range(80):
            net = self.layers(chance, 4, 4)
            self.check_layers(net, (9, *[0] * 4, *[1] * 4, 0), 1)
            self.check_layers(net, (9, *[chance.randint(0, 1) for _ in range(8)], 0), 1)
            net = self.layers(chance, 3, 3)
            self.check_layers(net, (9, *[chance.randint(0, 1) for _ in range(3)],
                                    *[chance.randint(1, 2) for _ in range(3)], 0), 2)

    def test_random_nets_show_their_costs(self):
        chance = random.Random(96)
        shown = []
        for narrow in random_nets():
            for _ in range(6):
                net = narrow.resized(*[chance.choice((2, 99, 999, 999)) for _ in narrow.channels])
                state = random_state(chance, net, chance.choice((3, 9, 999)))
                if is_recoverable(net, state):
                    line = cheapest(net, state)
                    self.assertIs(is_clean(net, line), True)
                    self.check(net, state, line, distance(net, state, line))
                    shown.append(distance(net, state, line))
        self.assertGreater(len([cost for cost in shown if cost > 100]), 5)

    def test_the_same_cost_in_the_mirror(self):
        chance = random.Random(97)
        for net in random_nets()[:80]:
            state = random_state(chance, net)
            mirror = mirror_state(net, state)
            self.assertIs(is_recoverable(net.mirrored(), mirror), is_recoverable(net, state))
            if is_recoverable(net, state):
                cost = distance(net, state, cheapest(net, state))
                self.assertEqual(distance(net.mirrored(), mirror, cheapest(net.mirrored(), mirror)), cost)

    def test_far_apart(self):
        self.check(Pipeline.row(999, 999), (999, 0, 999), (999, 999, 999), 999)
        self.check(Pipeline.row(999, 999), (0, 999, 0), (0, 0, 0), 999)
        self.check(Ring(*[999] * 40), (0,) * 39 + (999,), (0,) * 40, 999)
        self.check(Ring(*[999] * 40), (999,) * 20 + (0,) * 20, (999,) * 40, 999 * 20)
        self.assertEqual(cost_certificate(Pipeline.row(999, 999), (999, 0, 999)), ((1, 999, ((1, 2),)),))


class TestShownCost(Case):
    """Point 37."""

    # Stage 2 of this net may rise and stage 4 may fall. Stage 1 may not rise, and stages 5 and 6 may not fall.
    NET = Pipeline(7, (0, 1, 1), (1, 4, 9), (2, 4, 9), (0, 2, 99), (4, 5, 9), (2, 6, 9))
    AT = (50, 3, 4, 0, 8, 8, 9)

    def cost(self, *bands):
        self.assertEqual(shown_cost(self.NET, self.AT, bands), words_cost(self.NET, self.AT, bands))
        return shown_cost(self.NET, self.AT, bands)

    def test_the_stages(self):
        self.assertEqual(conflicts(self.NET, self.AT), ((1, 4), (1, 5), (2, 4), (2, 5), (2, 6)))
        self.assertEqual([may_rise(self.NET, self.AT, stage) for stage in range(7)],
                         [False, False, True, False, True, True, True])
        self.assertEqual([may_fall(self.NET, self.AT, stage) for stage in range(7)],
                         [False, True, True, False, True, False, False])

    def test_valid_ones(self):
        self.assertEqual(self.cost(), 0)
        self.assertEqual(self.cost((5, 8, ((2, 5),))), 4)
        self.assertEqual(self.cost((4, 8, ((1, 4),))), 5)
        self.assertEqual(self.cost((5, 8, ((1, 4), (2, 5)))), 8)
        self.assertEqual(self.cost((6, 6, ((1, 4), (1, 5)))), 2)
        self.assertEqual(self.cost((6, 6, ((1, 4), (1, 5), (2, 6)))), 3)
        self.assertEqual(self.cost((4, 4, ((1, 4),)), (5, 5, ((1, 5),)), (7, 8, ((1, 4), (2, 5))), (9, 9, ((2, 6),))),
                         7)
        self.assertEqual(shown_cost(ROW, (0, 0, 0, 0), ()), 0)

    def test_not_every_valid_one_is_of_a_recoverable_state(self):
        self.assertEqual(shown_cost(STUCK, (2, 0, 3, 0), ((3, 3, ((0, 2), (1, 2))),)), 2)
        self.assertEqual(shown_cost(STUCK, (2, 0, 3, 0), ()), 0)

    def test_the_order_of_the_bands(self):
        low, high = (5, 6, ((2, 5),)), (7, 8, ((2, 5),))
        self.assertEqual(self.cost(low, high), 4)
        self.assertIsNone(self.cost(high, low))
        self.assertIsNone(self.cost(low, low))
        self.assertIsNone(self.cost(low, (6, 8, ((2, 5),))))
        self.assertIsNone(self.cost((5, 8, ((2, 5),)), (6, 6, ((1, 4),))))

    def test_the_items_of_a_band(self):
        self.assertIsNone(self.cost((6, 5, ((2, 5),))))
        self.assertIsNone(self.cost((0, 5, ((2, 5),))))
        self.assertIsNone(self.cost((-1, 5, ((2, 5),))))
        self.assertIsNone(self.cost((5, 1000, ((2, 5),))))
        # The later stage does not hold the last item, the earlier one holds the first item.
        self.assertEqual(self.cost((5, 8, ((2, 5),))), 4)
        self.assertIsNone(self.cost((5, 9, ((2, 5),))))
        self.assertIsNone(self.cost((4, 8, ((2, 5),))))

    def test_the_pairs_of_a_band(self):
        self.assertIsNone(self.cost((5, 8, ())))
        self.assertIsNone(self.cost((5, 8, ((5, 2),))))
        self.assertIsNone(self.cost((5, 8, ((1, 6),))))
        self.assertIsNone(self.cost((5, 8, ((3, 4),))))
        self.assertIsNone(self.cost((5, 8, ((2, 2),))))
        self.assertIsNone(self.cost((5, 8, ((0, 4),))))
        self.assertIsNone(self.cost((5, 8, ((2, 5), (2, 5)))))
        self.assertIsNone(self.cost((5, 8, ((1, 4), (1, 4)))))
        self.assertIsNone(self.cost((5, 8, ((2, 5), (1, 4)))))
        self.assertIsNone(self.cost((5, 8, ((1, 5), (1, 4)))))
        # One pair is right, and another one is no conflict, or stands twice, though its stages may.
        self.assertIsNone(self.cost((5, 8, ((1, 4), (1, 6)))))
        self.assertIsNone(self.cost((5, 8, ((1, 2), (1, 4)))))
        self.assertIsNone(self.cost((5, 8, ((1, 5), (1, 5)))))

    def test_a_stage_that_is_used_twice(self):
        # Stage 2 may rise, and stage 4 may fall.
        self.assertIsNone(self.cost((5, 8, ((2, 5), (2, 6)))))
        self.assertIsNone(self.cost((5, 8, ((1, 4), (2, 4)))))
        self.assertEqual(self.cost((5, 6, ((2, 5),)), (7, 8, ((2, 6),))), 4)
        # Stage 1 may not rise, stage 5 may not fall, stage 4 may rise and stage 2 may fall.
        self.assertEqual(self.cost((5, 8, ((1, 4), (1, 5)))), 8)
        self.assertEqual(self.cost((5, 8, ((1, 5), (2, 5)))), 8)

    def test_values_of_any_kind(self):
        pairs = ((2, 5),)
        band = (5, 8, pairs)
        bad = [None, True, 0, 8, "", "((5, 8, ((2, 5),)),)", [], {}, [band], {band: True}, band, (None,), ([],), ((),),
               (band, None), (band, ()), ([5, 8, pairs],), ((5, 8),), ((5, 8, pairs, 0),), ((5, 8, list(pairs)),),
               ((5, 8, {(2, 5): True}),), ((5, 8, ([2, 5],)),), ((5, 8, (2, 5)),), ((5, 8, ((2, 5, 0),)),),
               ((5, 8, ((2,),)),), ((5, 8, ("25",)),), ((5, 8, None),), ((5, 8, SAME),), ((5, 8, (SAME,)),), (SAME,),
               SAME,
               ((5, 8, ((1, 4), [2, 5])),), ((5, 8, ((1, 4), SAME)),), ((5, 8, ((1, 4), (2, [5]))),),
               ((5, 8, ((2, SAME),)),), ((5, 8, ((SAME, 5),)),)]
        for value in (*NEVER_NUMBERS, SAME):
            bad += [((value, 8, pairs),), ((5, value, pairs),), ((5, 8, ((value, 5),)),), ((5, 8, ((2, value),)),)]
        for value in (7, 40, 999, 10 ** 5000, -10 ** 5000):
            bad += [((5, 8, ((value, 5),)),), ((5, 8, ((2, value),)),)]
        for certificate in bad:
            self.assertIsNone(shown_cost(self.NET, self.AT, certificate))

    def test_true_is_no_item_and_no_stage(self):
        net = Pipeline.row(9, 9, 9)
        self.assertEqual(shown_cost(net, (9, 0, 1, 0), ((1, 1, ((1, 2),)),)), 1)
        for band in ((True, 1, ((1, 2),)), (1, True, ((1, 2),)), (1, 1, ((True, 2),)), (1.0, 1, ((1, 2),))):
            self.assertIsNone(shown_cost(net, (9, 0, 1, 0), (band,)))

    def test_changed_certificates_against_the_words(self):
        chance = random.Random(98)
        met = {True: 0, False: 0}
        for net in random_nets():
            state = random_state(chance, net, 8)
            known = conflicts(net, state)
            for _ in range(25 if known else 0):
                bands = []
                first = chance.randint(1, 3)
                for _ in range(chance.randint(1, 2)):
                    last = first + chance.choice((0, 0, 1, 2))
                    near = [(a, b) for a, b in known if state[a] < first and state[b] >= last] or known
                    pairs = tuple(sorted(chance.sample(near, chance.randint(1, min(3, len(near))))))
                    bands.append((first, last, pairs))
                    first = last + chance.choice((0, 1, 1, 1, 2))
                found = shown_cost(net, state, tuple(bands))
                self.assertEqual(found, words_cost(net, state, bands))
                met[found is None] += 1
        self.assertGreater(min(met.values()), 300)

    def test_no_valid_certificate_shows_more_than_a_recovery_costs(self):
        chance = random.Random(99)
        for _ in range(60):
            net = small_net(chance)
            state = random_state(chance, net, 3)
            clean = [size for other, size in search(net, state).items() if is_clean(net, other)]
            known = conflicts(net, state)
            for many in range(1, 4):
                for pairs in itertools.combinations(known, many):
                    for item in (1, 2, 3):
                        cost = shown_cost(net, state, ((item, item, pairs),))
                        if cost is not None and clean:
                            self.assertLessEqual(cost, min(clean))


class TestErrors(Case):

    CALLS = (conflicts, rollback_line, replay_line, is_recoverable, cheapest, cost_certificate)

    def test_the_state_comes_first(self):
        for state, position in ((None, None), ((2, 1), None), ((2, 1, 0, 1000), 3), ((2, True, -1, 0), 1),
                                ("2100", None)):
            for call in self.CALLS:
                self.fails(InvalidState, {"position": position}, call, ROW, state)
            self.fails(InvalidState, {"position": position}, may_rise, ROW, state, None)
            self.fails(InvalidState, {"position": position}, may_fall, ROW, state, 9)
            self.fails(InvalidState, {"position": position}, shown_cost, ROW, state, None)

    def test_no_stages(self):
        for value in (*NEVER_NUMBERS, 4, 40, SAME):
            self.fails(NotFound, {"number": value}, may_rise, ROW, STATE, value)
            self.fails(NotFound, {"number": value}, may_fall, ROW, STATE, value)


class TestWork(Case):

    def test_large_nets(self):
        chance = random.Random(100)
        starts = [tuple([chance.randint(0, 999) for _ in range(40)]), tuple(range(999, -1, -25)),
                  tuple(range(0, 1000, 25)),
                  tuple([min(999, max(0, 990 - 24 * k + chance.randint(-90, 90))) for k in range(40)]),
                  (999,) * 20 + (0,) * 20, (0,) * 20 + (999,) * 20]
        met = 0
        for net in (long_net(), long_net(capacity=200), Pipeline.row(*[999] * 39), Ring(*[999] * 40), Ring(*[1] * 40)):
            for start in starts:
                self.quick(conflicts, net, start)
                if self.quick(is_recoverable, net, start):
                    line = self.quick(cheapest, net, start)
                    certificate = self.quick(cost_certificate, net, start)
                    self.assertIs(is_clean(net, line), True)
                    self.assertEqual(self.quick(shown_cost, net, start, certificate), distance(net, start, line))
                    met += line != start
        self.assertGreater(met, 5)

    def test_a_certificate_of_many_bands(self):
        net = long_net()
        state = (999,) * 38 + (0, 999)
        certificate = tuple([(item, item, ((38, 39),)) for item in range(1, 1000)])
        self.assertEqual(self.quick(shown_cost, net, state, certificate), 999)
        self.assertIsNone(self.quick(shown_cost, net, state, certificate + certificate[-1:]))


class TestWholeProgram(Case):
    """Point 2, for recovery."""

    def test_nothing_passed_is_changed_and_equal_calls_are_equal(self):
        for _ in range(2):
            net, state, certificate = Pipeline.row(5, 5, 5), (5, 2, 4, 1), ((3, 4, ((1, 2),)),)
            self.assertEqual(cheapest(net, state), (5, 4, 4, 1))
            self.assertEqual(cost_certificate(net, state), certificate)
            self.assertEqual(shown_cost(net, state, certificate), 2)
            self.assertEqual((net, state, certificate), (ROW, STATE, ((3, 4, ((1, 2),)),)))

    def test_rows_of_results_are_tuples(self):
        certificate = cost_certificate(ROW, STATE)
        for row in (conflicts(ROW, STATE), *conflicts(ROW, STATE), rollback_line(ROW, STATE), replay_line(ROW, STATE),
                    cheapest(ROW, STATE), certificate, *certificate, certificate[0][2], *certificate[0][2]):
            self.assertIs(type(row), tuple)
