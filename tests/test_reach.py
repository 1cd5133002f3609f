"""withincall/reach.py: points 19 to 23 of the document."""

import itertools
import random

from tests.common import (
    NEVER_MOVES, NEVER_NUMBERS, SAME, Case, all_states, behind, long_net, may_be_made, moves_of, random_nets,
    random_state, search, small_net)
from withincall import reach
from withincall.errors import InvalidState, TooLarge, Unreachable
from withincall.moves import run_moves
from withincall.nets import Pipeline, Ring
from withincall.reach import (
    distance, first_moves, is_objection, is_plan, objections, plan, reaches, safe_moves)
from withincall.states import mirror_state

ROW = Pipeline.row(2, 1)
WIDE = Pipeline.row(999, 999, 999)
RING = Ring(9, 9, 9)

# A net, a start, a target, and the objections.
OBJECTIONS = (
    # The target is the start, also if it is full of hard channels.
    (ROW, (2, 1, 0), (2, 1, 0), ()),
    (ROW, (0, 9, 3), (0, 9, 3), ()),
    (Pipeline(2), (0, 9), (0, 9), ()),
    (RING, (0, 20, 4), (0, 20, 4), ()),
    # Each kind alone.
    (ROW, (1, 1, 1), (2, 1, 1), (("source", 0),)),
    (ROW, (2, 1, 1), (2, 1, 0), (("sink", 2),)),
    (ROW, (2, 2, 0), (2, 2, 1), (("jammed", 1),)),
    (ROW, (3, 2, 0), (3, 1, 0), (("jammed", 1),)),
    (ROW, (3, 0, 0), (2, 0, 0), (("jammed", 0),)),
    (ROW, (2, 1, 1), (0, 1, 1), (("orphan", 0),)),
    (ROW, (2, 1, 0), (2, 1, 2), (("orphan", 1),)),
    (ROW, (0, 2, 1), (0, 1, 2), (("orphan", 1),)),
    (RING, (1, 1, 1), (2, 2, 2), (("above", 0), ("above", 1), ("above", 2))),
    (RING, (3, 1, 0), (4, 4, 4), (("above", 0), ("above", 1), ("above", 2))),
    (RING, (1, 1, 1), (0, 0, 0), (("below", 0), ("below", 1), ("below", 2))),
    (RING, (3, 2, 1), (0, 0, 0), (("below", 0), ("below", 1), ("below", 2))),
    # The jammed channel's other directions are open.
    (ROW, (2, 2, 0), (2, 2, 0), ()),
    (ROW, (5, 2, 1), (5, 1, 1), ()),
    # An owing channel may stay owing or become less so, and a new one that moves apart is an orphan.
    (ROW, (0, 3, 2), (0, 2, 2), ()),
    (ROW, (0, 3, 2), (0, 3, 3), ()),
    (ROW, (0, 3, 3), (0, 4, 3), (("orphan", 0),)),
    (ROW, (1, 3, 3), (0, 3, 3), (("orphan", 0),)),
    # Several kinds.
    (Pipeline(1), (5,), (6,), (("source", 0),)),
    (Pipeline(1), (5,), (4,), (("sink", 0),)),
    (Pipeline(2), (5, 5), (4, 6), (("sink", 0), ("source", 1))),
    (ROW, (1, 1, 1), (2, 3, 0), (("orphan", 0), ("sink", 2), ("source", 0))),
    (ROW, (9, 5, 1), (8, 9, 2), (("jammed", 0), ("jammed", 1), ("orphan", 0))),
    (ROW, (9, 5, 1), (0, 9, 0), (("jammed", 0), ("orphan", 0), ("sink", 2))),
    (RING, (30, 1, 0), (31, 2, 32),
     (("above", 0), ("above", 2), ("jammed", 0), ("orphan", 1))),
    (RING, (2, 1, 0), (3, 1, 0), (("above", 0), ("orphan", 2))),
    (RING, (5, 4, 3), (5, 4, 2), (("below", 2), ("orphan", 2))),
)


def words_of_20(net, start, target):
    """All objections by the words of point 20."""
    found = []
    for stage in range(net.stages):
        ups = [channel for channel in net.channels if channel[1] == stage]
        downs = [channel for channel in net.channels if channel[0] == stage]
        if not ups and target[stage] > start[stage]:
            found.append(("source", stage))
        if not downs and target[stage] < start[stage]:
            found.append(("sink", stage))
        if net.is_ring() and all(target[stage] > counter for counter in start):
            found.append(("above", stage))
        if net.is_ring() and all(target[stage] < counter for counter in start):
            found.append(("below", stage))
    for channel, (a, b, capacity) in enumerate(net.channels):
        apart = target[a] < start[a] or target[b] > start[b]
        if start[a] - start[b] > capacity and apart:
            found.append(("jammed", channel))
        if target[a] < target[b] and apart:
            found.append(("orphan", channel))
    return tuple(sorted(found))


class ReachCase(Case):

    def unreachable(self, objection, call, *args):
        self.fails(Unreachable, {"objection": objection}, call, *args)


class TestDocumentExamples(ReachCase):

    def test_distance_plan_objections(self):
        found = [distance(ROW, (2, 1, 0), (2, 2, 2)), plan(ROW, (2, 1, 0), (2, 2, 2)),
                 objections(ROW, (2, 2, 0), (2, 2, 1))]
        self.assertEqual(found, [3, ((2, "advance"), (1, "advance"), (2, "advance")), (("jammed", 1),)])

    def test_most_moves(self):
        self.assertEqual(reach.MOST_MOVES, 2000)


class TestObjections(ReachCase):
    """Point 20."""

    def test_each_kind_alone_and_beside_others(self):
        for net, start, target, expected in OBJECTIONS:
            with self.subTest(start=start, target=target):
                self.assertEqual(objections(net, start, target), expected)
                self.assertIs(reaches(net, start, target), expected == ())
                if expected:
                    for call in (distance, first_moves, plan):
                        self.unreachable(expected[0], call, net, start, target)
                    self.assertEqual(safe_moves(net, start, target), ())
                else:
                    differences = [abs(a - b) for a, b in zip(start, target)]
                    self.assertEqual(distance(net, start, target), sum(differences))

    def test_all_six_kinds_are_met(self):
        kinds = {reason for *_, expected in OBJECTIONS for reason, _ in expected}
        self.assertEqual(kinds, {"source", "sink", "jammed", "orphan", "above", "below"})

    def test_many_states_against_the_words(self):
        chance = random.Random(41)
        for net in random_nets():
            most = chance.choice((2, 4, 8))
            for _ in range(10):
                start = random_state(chance, net, most)
                target = tuple([max(0, counter + chance.choice((-1, 0, 0, 0, 1))) for counter in start])
                expected = words_of_20(net, start, target)
                self.assertEqual(objections(net, start, target), expected)
                self.assertIs(reaches(net, start, target), expected == ())
                for kind in ("source", "sink", "jammed", "orphan", "above", "below"):
                    for number in range(max(net.stages, len(net.channels)) + 1):
                        pair = (kind, number)
                        self.assertIs(is_objection(net, start, target, pair), pair in expected)

    def test_mirrored_objections(self):
        chance = random.Random(42)
        turned = {"source": "sink", "sink": "source", "above": "below", "below": "above"}
        for net in random_nets():
            start, target = random_state(chance, net, 3), random_state(chance, net, 3)
            found = objections(net.mirrored(), mirror_state(net, start), mirror_state(net, target))
            stages = [(turned[kind], net.stages - 1 - number) for kind, number in found if kind in turned]
            channels = []
            for kind, number in found:
                if kind not in turned:
                    a, b, capacity = net.mirrored().channels[number]
                    back = (net.stages - 1 - b, net.stages - 1 - a, capacity)
                    channels.append((kind, net.channels.index(back)))
            self.assertEqual(tuple(sorted(stages + channels)), objections(net, start, target))

    def test_values_that_are_no_objection(self):
        values = (
            None, True, 0, 1, "source", "jammed", b"jammed", (), ("jammed",), ("jammed", 1, 1), ["jammed", 1],
            {"jammed": 1}, (1, "jammed"), (("jammed", 1),), ("jammed", (1,)), ("jammed", [1]), ("jammed", "1"),
            SAME, (SAME, 1), ("jammed", SAME), ("Jammed", 1), ("jammed ", 1), ("", 1),
            (None, 1), (True, 1), (["jammed"], 1), (b"jammed", 1), ("jammed", {}),
            objections(ROW, (2, 2, 0), (2, 2, 1)), ("jammed", 0), ("jammed", 2), ("source", 1),
            ("orphan", 1), ("sink", 1))
        for value in (*values, *[("jammed", number) for number in NEVER_NUMBERS]):
            self.assertIs(is_objection(ROW, (2, 2, 0), (2, 2, 1), value), False)
            self.assertIs(is_objection(ROW, (2, 2, 0), (2, 2, 0), value), False)
        self.assertIs(is_objection(ROW, (2, 2, 0), (2, 2, 1), ("jammed", 1)), True)

    def test_true_is_not_the_number_one(self):
        net = Pipeline(2)
        self.assertIs(is_objection(net, (0, 0), (1, 1), ("source", 1)), True)
        self.assertIs(is_objection(net, (0, 0), (1, 1), ("source", True)), False)
        self.assertIs(is_objection(net, (0, 0), (1, 1), ("source", 0)), True)
        self.assertIs(is_objection(net, (0, 0), (1, 1), ("source", False)), False)


class TestMainRule(ReachCase):
    """Points 19 and 21: what is reached, and at which distance, agrees with a search."""

    def test_small_nets(self):
        chance = random.Random(43)
        for _ in range(120):
            net = small_net(chance)
            most = chance.choice((2, 3))
            start = random_state(chance, net, most)
            found = search(net, start)
            for target in all_states(net, most):
                self.assertIs(reaches(net, start, target), target in found)
                if target in found:
                    self.assertEqual(distance(net, start, target), found[target])
                else:
                    self.unreachable(words_of_20(net, start, target)[0], distance, net, start, target)

    def test_the_target_is_the_start(self):
        for net, start in ((ROW, (2, 1, 0)), (ROW, (0, 5, 0)), (Pipeline(1), (0,)), (RING, (7, 7, 7))):
            self.assertIs(reaches(net, start, start), True)
            self.assertEqual(distance(net, start, start), 0)
            self.assertEqual(first_moves(net, start, start), ())
            self.assertEqual(plan(net, start, start), ())
            self.assertIs(is_plan(net, start, start, ()), True)

    def test_large_distances(self):
        self.assertEqual(distance(WIDE, (999, 0, 0, 0), (999, 999, 999, 999)), 2997)
        self.assertEqual(distance(WIDE, (999, 999, 0, 0), (0, 0, 0, 0)), 1998)


class TestPlans(ReachCase):
    """Point 22."""

    def test_first_moves_plans_and_safe_moves_of_small_nets(self):
        chance = random.Random(44)
        for _ in range(60):
            net = small_net(chance)
            start = random_state(chance, net, 3)
            found = search(net, start)
            near = {move: search(net, behind(start, move)) for move in moves_of(net) if may_be_made(net, start, move)}
            for target in chance.sample(sorted(found), min(6, len(found))):
                first = [move for move in near if near[move].get(target) == found[target] - 1]
                safe = [move for move in near if target in near[move]]
                self.assertEqual(first_moves(net, start, target), tuple(first))
                self.assertEqual(safe_moves(net, start, target), tuple(safe))
                self.assertEqual(plan(net, start, target), self.first_plan(net, start, target, found[target]))

    def first_plan(self, net, start, target, size):
        """The first one of all rows of moves that lead to the target in so many steps."""
        if start == target:
            return ()
        for move in moves_of(net):
            if may_be_made(net, start, move):
                after = behind(start, move)
                if search(net, after).get(target) == size - 1:
                    return (move, *self.first_plan(net, after, target, size - 1))
        raise AssertionError("there is no plan")

    def test_the_plan_is_the_first_one_of_all(self):
        # Every row of moves of the right length is tried, in ascending order.
        for net, start, target in ((ROW, (2, 1, 0), (1, 1, 1)), (ROW, (2, 1, 0), (2, 2, 2)),
                                   (Pipeline(4, (0, 1, 2), (2, 3, 2)), (3, 1, 2, 0), (2, 2, 2, 2)),
                                   (Ring(3, 1, 2), (3, 1, 0), (2, 2, 1))):
            plans = []
            for row in itertools.product(moves_of(net), repeat=distance(net, start, target)):
                state, good = start, True
                for move in row:
                    good = good and may_be_made(net, state, move)
                    state = behind(state, move)
                if good and state == target:
                    plans.append(row)
            self.assertEqual(plan(net, start, target), plans[0])
            self.assertEqual(first_moves(net, start, target), tuple(sorted({row[0] for row in plans})))
            for row in itertools.product(moves_of(net), repeat=distance(net, start, target)):
                self.assertIs(is_plan(net, start, target, row), row in plans)

    def test_safe_moves_may_lead_away(self):
        self.assertEqual(safe_moves(Pipeline.row(2, 2), (2, 1, 0), (2, 1, 0)), ((1, "advance"), (1, "rollback")))
        self.assertEqual(first_moves(Pipeline.row(2, 2), (2, 1, 0), (2, 2, 0)), ((1, "advance"),))
        self.assertEqual(safe_moves(Pipeline.row(2, 2), (2, 1, 0), (2, 2, 0)), ((1, "advance"), (1, "rollback")))
        self.assertEqual(safe_moves(ROW, (2, 1, 0), (2, 2, 2)), ((1, "rollback"), (2, "advance")))

    def test_safe_moves_to_a_target_that_is_not_reached(self):
        self.assertEqual(safe_moves(ROW, (2, 1, 0), (3, 1, 0)), ())
        self.assertEqual(safe_moves(Pipeline(2), (0, 0), (0, 1)), ())

    def test_stages_compare_as_numbers(self):
        net = Pipeline(12, (0, 10), (1, 2))
        self.assertEqual(first_moves(net, (1,) + (1,) + (0,) * 10, (1, 1, 1) + (0,) * 7 + (1, 0)),
                         ((2, "advance"), (10, "advance")))

    def test_values_that_are_no_plan(self):
        good = ((2, "advance"), (1, "advance"), (2, "advance"))
        start, target = (2, 1, 0), (2, 2, 2)
        self.assertIs(is_plan(ROW, start, target, good), True)
        for value in (None, True, 0, "", "+2 +1 +2", list(good), {}, set(), iter(good), (), good[:2], (*good, good[0]),
                      good[:1], (good,), good[0], ((1, "advance"), (2, "advance"), (2, "advance")),
                      ((2, "advance"), (2, "advance"), (1, "advance")),
                      (*good, (1, "rollback"), (1, "advance")), ((1, "rollback"), (1, "advance"), *good)):
            self.assertIs(is_plan(ROW, start, target, value), False)
        for value in NEVER_MOVES:
            for at in range(3):
                self.assertIs(is_plan(ROW, start, target, (*good[:at], value, *good[at + 1:])), False)
                self.assertIs(is_plan(ROW, start, target, (*good[:at], value, *good[at:])), False)

    def test_true_is_not_the_stage_one(self):
        self.assertIs(is_plan(ROW, (2, 1, 1), (2, 2, 1), ((1, "advance"),)), True)
        self.assertIs(is_plan(ROW, (2, 1, 1), (2, 2, 1), ((True, "advance"),)), False)
        self.assertIs(is_plan(ROW, (2, 1, 1), (1, 1, 1), ((0, "rollback"),)), True)
        self.assertIs(is_plan(ROW, (2, 1, 1), (1, 1, 1), ((False, "rollback"),)), False)

    def test_no_plan_to_a_target_that_is_not_reached(self):
        self.assertIs(is_plan(ROW, (1, 1, 0), (2, 1, 0), ((0, "advance"),)), False)
        self.assertIs(is_plan(ROW, (2, 2, 0), (2, 2, 1), ((2, "advance"),)), False)
        self.assertIs(is_plan(ROW, (2, 2, 0), (2, 2, 1), ()), False)
        self.assertIs(is_plan(ROW, (2, 2, 0), (2, 2, 1), None), False)

    def test_a_longer_run_is_no_plan(self):
        net = Pipeline.row(2, 2)
        there_and_back = ((1, "advance"), (1, "rollback"))
        self.assertEqual(run_moves(net, (2, 1, 0), there_and_back), (2, 1, 0))
        self.assertIs(is_plan(net, (2, 1, 0), (2, 1, 0), there_and_back), False)


class TestErrors(ReachCase):
    """Point 23, and the order of errors."""

    CALLS = (objections, reaches, distance, first_moves, safe_moves, plan)

    def test_states_come_first_in_their_order(self):
        bad = ((None, None), ((1, 2), None), ((0, 0, 1000), 2), ((True, 0, -1), 0), ((0, -1, 0), 1))
        for start, position in bad:
            for target in ((2, 2, 2), (9, 9, 9), None, (1000, 0, 0)):
                for call in self.CALLS:
                    self.fails(InvalidState, {"position": position}, call, ROW, start, target)
                for call in (is_objection, is_plan):
                    self.fails(InvalidState, {"position": position}, call, ROW, start, target, None)
            for call in self.CALLS:
                self.fails(InvalidState, {"position": position}, call, ROW, (2, 1, 0), start)
            for call in (is_objection, is_plan):
                self.fails(InvalidState, {"position": position}, call, ROW, (2, 1, 0), start, ())

    def test_distances_of_2000_and_2001(self):
        start = (999, 0, 0, 0)
        moves = self.quick(plan, WIDE, start, (999, 999, 999, 2))
        self.assertEqual(len(moves), 2000)
        self.assertEqual(run_moves(WIDE, start, moves), (999, 999, 999, 2))
        self.fails(TooLarge, {"size": 2001, "most": 2000}, plan, WIDE, start, (999, 999, 999, 3))
        self.fails(TooLarge, {"size": 2997, "most": 2000}, plan, WIDE, start, (999, 999, 999, 999))

    def test_only_plan_has_a_limit(self):
        start, target = (999, 0, 0, 0), (999, 999, 999, 999)
        self.assertIs(reaches(WIDE, start, target), True)
        self.assertEqual(distance(WIDE, start, target), 2997)
        self.assertEqual(first_moves(WIDE, start, target), ((1, "advance"),))
        self.assertEqual(safe_moves(WIDE, start, target), ((1, "advance"),))
        moves = ((1, "advance"), (2, "advance"), (3, "advance")) * 999
        self.assertIs(self.quick(is_plan, WIDE, start, target, moves), True)
        self.assertIs(self.quick(is_plan, WIDE, start, target, moves[1:] + moves[:1]), False)

    def test_unreachable_comes_before_too_large(self):
        net = Pipeline.row(999, 999, 1)
        self.unreachable(("orphan", 2), plan, WIDE, (999, 0, 0, 0), (999, 999, 998, 999))
        self.unreachable(("jammed", 2), plan, net, (999, 0, 5, 0), (999, 999, 999, 999))
        self.unreachable(("source", 0), plan, WIDE, (998, 0, 0, 0), (999, 999, 999, 999))

    def test_the_first_objection_is_carried(self):
        for net, start, target, expected in OBJECTIONS:
            if len(expected) > 1:
                self.unreachable(expected[0], plan, net, start, target)


class TestWork(ReachCase):

    def test_a_plan_of_2000_moves_in_a_large_net(self):
        net = long_net()
        start = tuple([999] + [949] * 39)
        target = (999,) * 40
        moves = self.quick(plan, net, start, target)
        self.assertEqual(len(moves), 39 * 50)
        self.assertEqual(run_moves(net, start, moves), target)
        self.assertIs(self.quick(is_plan, net, start, target, moves), True)
        self.assertEqual(self.quick(first_moves, net, start, target), ((1, "advance"),))
        self.assertEqual(self.quick(safe_moves, net, start, target), ((1, "advance"),))

    def test_a_plan_of_2000_moves_in_narrow_nets(self):
        net = long_net(capacity=1)
        start, target = tuple([999] + [998] * 39), (999,) * 40
        self.assertEqual(len(self.quick(plan, net, start, target)), 39)
        ring = Ring(*[999] * 40)
        start = tuple([0] * 39 + [53])
        target = tuple([51] * 39 + [53])
        self.assertEqual(self.quick(distance, ring, start, target), 39 * 51)
        moves = self.quick(plan, ring, start, target)
        self.assertEqual(len(moves), 39 * 51)
        self.assertEqual(run_moves(ring, start, moves), target)
