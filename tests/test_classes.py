"""withincall/classes.py: points 43 to 46 of the document."""

import random

from tests.common import (
    NEVER_MOVES, NEVER_NUMBERS, SAME, Case, behind, lively_case, long_net, may_be_made, moves_of, random_nets,
    random_state, search)
from withincall.classes import (
    class_ceiling, class_floor, class_member, class_rank, class_size, exits, fixed_stages, hard_channels, is_dead,
    is_settled, is_two_way, members, mutual)
from withincall.errors import Blocked, InvalidMove, InvalidState, NotFound, TooLarge
from withincall.moves import allowed_moves, blockers
from withincall.nets import Pipeline, Ring
from withincall.states import mirror_state

ROW = Pipeline.row(2, 2)
START = (2, 1, 0)
# Fourteen rows of three stages, in which only the stages in the middle move.
MANY = Pipeline(42 - 3, *[pair for k in range(13) for pair in ((3 * k, 3 * k + 1, 999), (3 * k + 1, 3 * k + 2, 999))])


def middle(*widths):
    """The state of the many rows in which the stages in the middle can have so many counters."""
    more = [1] * (13 - len(widths))
    return tuple([counter for width in (*widths, *more) for counter in (width - 1, 0, 0)])


def words_hard(net, state):
    return tuple([k for k, (a, b, c) in enumerate(net.channels) if state[a] - state[b] < 0 or state[a] - state[b] > c])


def words_fixed(net, state):
    """The fixed stages by the words of point 43."""
    hard = [net.channels[k] for k in words_hard(net, state)]
    found = []
    for stage in range(net.stages):
        is_source = all([b != stage for _, b, _ in net.channels])
        is_sink = all([a != stage for a, _, _ in net.channels])
        at_hard = any([stage in (a, b) for a, b, _ in hard])
        if is_source or is_sink or at_hard or (net.is_ring() and not hard):
            found.append(stage)
    return tuple(found)


class TestDocumentExamples(Case):

    def test_a_row(self):
        found = [class_floor(ROW, START), class_ceiling(ROW, START), class_size(ROW, START), class_rank(ROW, START)]
        self.assertEqual(found, [(2, 0, 0), (2, 2, 0), 3, 1])

    def test_exits(self):
        self.assertEqual(list(exits(ROW, START)), [
            ((2, 0, 0), (0, "rollback")), ((2, 1, 0), (0, "rollback")), ((2, 1, 0), (2, "advance")),
            ((2, 2, 0), (2, "advance"))])


class TestHardAndFixed(Case):
    """Point 43."""

    def test_each_condition(self):
        for state, hard, fixed in (((2, 1, 0), (), (0, 2)), ((2, 2, 2), (), (0, 2)), ((4, 2, 0), (), (0, 2)),
                                   ((5, 2, 0), (0,), (0, 1, 2)), ((2, 3, 1), (0,), (0, 1, 2)),
                                   ((2, 2, 3), (1,), (0, 1, 2)),
                                   ((5, 0, 1), (0, 1), (0, 1, 2))):
            self.assertEqual(hard_channels(ROW, state), hard)
            self.assertEqual(fixed_stages(ROW, state), fixed)

    def test_rings_with_and_without_hard_channels(self):
        ring = Ring(2, 2, 2, 2)
        self.assertEqual(hard_channels(ring, (5, 5, 5, 5)), ())
        self.assertEqual(fixed_stages(ring, (5, 5, 5, 5)), (0, 1, 2, 3))
        self.assertEqual(hard_channels(ring, (5, 4, 4, 4)), (3,))
        self.assertEqual(fixed_stages(ring, (5, 4, 4, 4)), (0, 3))
        self.assertEqual(list(members(ring, (5, 4, 4, 4))), [(5, 4, 4, 4), (5, 5, 4, 4), (5, 5, 5, 4)])

    def test_stages_without_channels_are_fixed(self):
        self.assertEqual(fixed_stages(Pipeline(3), (0, 5, 9)), (0, 1, 2))
        self.assertEqual(fixed_stages(Pipeline(4, (0, 1), (1, 3)), (0, 0, 0, 0)), (0, 2, 3))
        self.assertEqual(list(members(Pipeline(1), (7,))), [(7,)])

    def test_against_the_words(self):
        chance = random.Random(111)
        for net in random_nets():
            state = random_state(chance, net, chance.choice((1, 3, 6)))
            self.assertEqual(hard_channels(net, state), words_hard(net, state))
            self.assertEqual(fixed_stages(net, state), words_fixed(net, state))


class TestSmallNets(Case):
    """All agrees with a search over allowed moves."""

    @classmethod
    def setUpClass(cls):
        chance = random.Random(112)
        cls.cases = []
        for k in range(500):
            net, start, found = lively_case(chance, chance.choice((2, 3, 4)))
            if k % 3 == 0:
                start = random_state(chance, net, 4)
                found = search(net, start)
            elif k % 3 == 1:
                start = chance.choice(sorted(found))
                found = search(net, start)
            together = sorted([state for state in found if start in search(net, state)])
            cls.cases.append((net, start, found, together))

    def test_it_goes_through_classes_of_several_states(self):
        self.assertGreater(len([case for case in self.cases if len(case[3]) > 3]), 40)
        self.assertGreater(len([case for case in self.cases if case[0].is_ring() and len(case[3]) > 1]), 3)

    def test_mutual_states(self):
        for net, start, found, together in self.cases:
            for state in found:
                self.assertIs(mutual(net, start, state), state in together)
                self.assertIs(mutual(net, state, start), state in together)
                same = class_floor(net, state) == class_floor(net, start)
                self.assertIs(same, state in together)

    def test_the_words_of_point_44(self):
        for net, start, found, together in self.cases:
            hard, fixed = words_hard(net, start), words_fixed(net, start)
            for state in found:
                loads = [state[a] - state[b] for a, b, _ in net.channels]
                alike = (words_hard(net, state) == hard and all([state[stage] == start[stage] for stage in fixed])
                         and all([k in hard or 0 <= loads[k] <= net.channels[k][2] for k in range(len(loads))]))
                self.assertIs(mutual(net, start, state), alike)

    def test_floors_and_ceilings(self):
        for net, start, _, together in self.cases:
            self.assertEqual(class_floor(net, start), tuple(map(min, *together, together[0])))
            self.assertEqual(class_ceiling(net, start), tuple(map(max, *together, together[0])))
            self.assertIn(class_floor(net, start), together)
            self.assertIn(class_ceiling(net, start), together)

    def test_members_sizes_and_ranks(self):
        for net, start, _, together in self.cases:
            self.assertEqual(list(members(net, start)), together)
            self.assertEqual(class_size(net, start), len(together))
            self.assertEqual(class_rank(net, start), together.index(start))
            for rank, state in enumerate(together):
                self.assertEqual(class_member(net, start, rank), state)
                self.assertEqual(class_rank(net, state), rank)
            for rank in (-1, len(together), True):
                self.fails(NotFound, {"number": rank}, class_member, net, start, rank)

    def test_two_way_moves(self):
        met = {True: 0, False: 0}
        for net, start, _, together in self.cases:
            for move in moves_of(net):
                if may_be_made(net, start, move):
                    back = (move[0], "rollback" if move[1] == "advance" else "advance")
                    two_way = behind(start, move) in together
                    self.assertIs(is_two_way(net, start, move), two_way)
                    self.assertIs(may_be_made(net, behind(start, move), back), two_way)
                    met[two_way] += 1
                else:
                    channels = blockers(net, start, move)
                    self.fails(Blocked, {"move": move, "channels": channels, "at": 0}, is_two_way, net, start, move)
        self.assertGreater(min(met.values()), 100)

    def test_floors_have_no_two_way_rollbacks(self):
        for net, start, _, _ in self.cases:
            free = [move for move in allowed_moves(net,
                                                   start) if move[1] == "rollback" and is_two_way(net, start, move)]
            self.assertIs(class_floor(net, start) == start, free == [])

    def test_exits_and_settled_states(self):
        met = {True: 0, False: 0}
        for net, start, found, together in self.cases:
            out = [(state, move) for state in together for move in moves_of(net)
                   if may_be_made(net, state, move) and behind(state, move) not in together]
            self.assertEqual(list(exits(net, start)), out)
            self.assertIs(is_settled(net, start), len(found) == len(together))
            self.assertIs(is_settled(net, start), out == [])
            met[out == []] += 1
        self.assertGreater(min(met.values()), 20)

    def test_settled_states_of_random_classes(self):
        """More nets, since few classes of several states are settled."""
        chance = random.Random(113)
        met = {True: 0, False: 0}
        for _ in range(5000):
            net = Pipeline(5, *[(a, b, chance.choice((1, 3, 5))) for a in range(5) for b in range(a + 1, 5)
                                if chance.random() < 0.45])
            state = random_state(chance, net, 3)
            if class_size(net, state) > 1:
                self.assertIs(is_settled(net, state), list(exits(net, state)) == [])
                met[is_settled(net, state)] += 1
        self.assertGreater(min(met.values()), 20)

    def test_dead_states(self):
        met = {True: 0, False: 0}
        for net, start, found, _ in self.cases:
            self.assertIs(is_dead(net, start), len(found) == 1)
            self.assertTrue(not is_dead(net, start) or is_settled(net, start))
            met[is_dead(net, start)] += 1
        self.assertGreater(min(met.values()), 20)

    def test_mirrored(self):
        for net, start, _, together in self.cases:
            other, mirror = net.mirrored(), mirror_state(net, start)
            self.assertEqual(class_floor(other, mirror), mirror_state(net, class_ceiling(net, start)))
            self.assertEqual(class_size(other, mirror), len(together))
            self.assertEqual(class_rank(other, mirror) < len(together), True)
            self.assertIs(is_settled(other, mirror), is_settled(net, start))
            self.assertIs(is_dead(other, mirror), is_dead(net, start))
            self.assertEqual(len(list(exits(other, mirror))), len(list(exits(net, start))))


class TestSettled(Case):
    """Point 45."""

    def test_moves_of_fixed_stages(self):
        self.assertIs(is_settled(ROW, (2, 1, 0)), False)
        self.assertIs(is_settled(ROW, (2, 2, 2)), True)
        self.assertIs(is_settled(ROW, (9, 9, 0)), True)
        self.assertIs(is_settled(ROW, (9, 0, 0)), True)

    def test_a_channel_that_may_become_full(self):
        # Stage 2 may go up and down, but not fill channel 1: then it would jam it. The other ways are hard.
        net = Pipeline(5, (0, 2, 5), (1, 2, 5), (2, 3, 3), (2, 4, 9))
        start = (2, 2, 1, 0, 3)
        self.assertEqual(hard_channels(net, start), (3,))
        self.assertEqual(fixed_stages(net, start), (0, 1, 2, 3, 4))
        net = Pipeline(7, (0, 1, 1), (1, 4, 9), (2, 3, 1), (3, 4, 2), (4, 5, 9), (5, 6, 1))
        for state in ((9, 2, 9, 2, 1, 0, 9), (9, 3, 9, 3, 1, 0, 9), (9, 3, 9, 3, 2, 0, 9), (9, 2, 9, 3, 2, 1, 9)):
            together = [other for other in search(net, state) if state in search(net, other)]
            self.assertIs(is_settled(net, state), len(together) == len(search(net, state)))

    def test_settled_classes_of_several_states(self):
        # The ends are held by hard channels, and the stage between them goes up and down.
        net = Pipeline.row(1, 9, 9, 1)
        state = (9, 5, 4, 3, 9)
        self.assertEqual(hard_channels(net, state), (0, 3))
        self.assertEqual(list(members(net, state)), [(9, 5, 3, 3, 9), (9, 5, 4, 3, 9), (9, 5, 5, 3, 9)])
        self.assertEqual(list(exits(net, state)), [
            ((9, 5, 3, 3, 9), (1, "rollback")), ((9, 5, 4, 3, 9), (1, "rollback")), ((9, 5, 4, 3, 9), (3, "advance")),
            ((9, 5, 5, 3, 9), (3, "advance"))])
        self.assertIs(is_settled(net, state), False)
        # With a second channel into stage 3 and out of stage 1 that is never ready, they are held for good.
        net = Pipeline(7, (0, 1, 1), (1, 2, 9), (2, 3, 9), (3, 4, 1), (1, 5, 1), (6, 3, 1))
        state = (9, 5, 4, 3, 9, 9, 0)
        self.assertEqual(len(search(net, state)), 3)
        self.assertEqual(list(exits(net, state)), [])
        self.assertIs(is_settled(net, state), True)
        self.assertIs(is_dead(net, state), False)

    def test_far_from_the_state_that_is_asked_about(self):
        # The exit is allowed only after 900 moves within the class.
        net = Pipeline(7, (0, 1, 1), (1, 2, 999), (2, 3, 999), (3, 4, 1), (1, 5, 1), (6, 3, 999), (2, 4, 900))
        state = (999, 950, 0, 0, 0, 990, 999)
        self.assertEqual(class_ceiling(net, state)[2], 900)
        self.assertIs(is_settled(net, state), False)


class TestTooLarge(Case):
    """Point 46."""

    CALLS = ((class_size, ()), (class_rank, ()), (class_member, (0,)))

    def too_large(self, size, state):
        for call, args in self.CALLS:
            self.fails(TooLarge, {"size": size, "most": 20000}, call, MANY, state, *args)
        for call in (members, exits):
            self.fails(TooLarge, {"size": size, "most": 20000}, lambda: next(call(MANY, state)))

    def test_20000_states_and_more(self):
        # 20000 is 20 * 25 * 40, and 20001 is 3 * 59 * 113.
        state = middle(20, 25, 40)
        self.assertEqual(self.quick(class_size, MANY, state), 20000)
        self.assertEqual(len(self.quick(lambda: list(members(MANY, state)))), 20000)
        self.assertEqual(self.quick(class_rank, MANY, state), 0)
        self.assertEqual(self.quick(class_member, MANY, state, 19999), class_ceiling(MANY, state))
        self.fails(NotFound, {"number": 20000}, class_member, MANY, state, 20000)
        self.too_large(20001, middle(3, 59, 113))
        self.too_large(999 * 999, middle(999, 999))
        self.too_large(1000 ** 13, middle(*[1000] * 13))

    def test_the_product_counts_states_that_are_not_of_the_class(self):
        # Stage 2 is never above stage 1.
        net = Pipeline.row(999, 999, 999)
        state = (141, 0, 0, 0)
        self.fails(TooLarge, {"size": 142 * 142, "most": 20000}, class_size, net, state)
        self.assertEqual(self.quick(class_size, net, (140, 0, 0, 0)), 141 * 142 // 2)

    def test_exits_of_a_large_class(self):
        state = middle(*[2] * 14)[:39]
        found = self.quick(lambda: list(exits(MANY, state)))
        self.assertEqual(class_size(MANY, state), 2 ** 13)
        self.assertEqual(len(found), 13 * 2 ** 13)

    def test_too_large_comes_before_the_error_of_the_rank(self):
        for rank in (*NEVER_NUMBERS, 0, 20001):
            self.fails(TooLarge, {"size": 20001, "most": 20000}, class_member, MANY, middle(3, 59, 113), rank)

    def test_ranks_that_do_not_exist(self):
        for rank in (*NEVER_NUMBERS, 3, 4, 999, SAME):
            self.fails(NotFound, {"number": rank}, class_member, ROW, START, rank)
        self.assertEqual([class_member(ROW, START, rank) for rank in range(3)], [(2, 0, 0), (2, 1, 0), (2, 2, 0)])

    def test_the_others_have_no_such_limit(self):
        state = middle(*[1000] * 13)
        self.assertEqual(self.quick(class_floor, MANY, state), state)
        self.assertEqual(self.quick(class_ceiling, MANY, state), tuple([999, 999, 0] * 13))
        self.assertIs(self.quick(mutual, MANY, state, class_ceiling(MANY, state)), True)
        self.assertIs(self.quick(is_settled, MANY, state), False)
        self.assertIs(is_dead(MANY, state), False)
        self.assertIs(is_two_way(MANY, state, (1, "advance")), True)
        self.assertIs(is_two_way(MANY, state, (0, "rollback")), False)


class TestErrors(Case):

    BAD_STATES = ((None, None), ((2, 1), None), ((2, 1, 1000), 2), ((2, True, -1), 1), ("210", None), ([2, 1, 0], None))

    def test_the_state_comes_first(self):
        for state, position in self.BAD_STATES:
            for call, args in ((mutual, (None,)), (hard_channels, ()), (fixed_stages, ()), (class_floor, ()),
                               (class_ceiling, ()), (is_two_way, (None,)), (is_dead, ()), (is_settled, ()),
                               (class_size, ()), (class_rank, ()), (class_member, (None,))):
                self.fails(InvalidState, {"position": position}, call, ROW, state, *args)
            for call in (members, exits):
                self.fails(InvalidState, {"position": position}, lambda: next(call(ROW, state)))
            self.fails(InvalidState, {"position": position}, mutual, ROW, START, state)

    def test_no_moves_and_moves_that_are_not_allowed(self):
        for value in (*NEVER_MOVES, (3, "advance")):
            self.fails(InvalidMove, {}, is_two_way, ROW, START, value)
        for move, channels in (((0, "advance"), ()), ((2, "rollback"), ())):
            self.fails(Blocked, {"move": move, "channels": channels, "at": 0}, is_two_way, ROW, START, move)
        self.fails(Blocked, {"move": (1, "advance"), "channels": (0,), "at": 0}, is_two_way, ROW, (1, 1, 0),
                   (1, "advance"))


class TestWork(Case):

    def test_large_nets(self):
        chance = random.Random(114)
        starts = [tuple(range(999, 959, -1)), tuple(range(999, -1, -25)), (999,) * 20 + (0,) * 20, (500,) * 40,
                  tuple([chance.randint(0, 999) for _ in range(40)]), (999,) + (500,) * 38 + (0,)]
        for net in (long_net(), long_net(capacity=1), long_net(capacity=30), Ring(*[999] * 40), Ring(*[1] * 40),
                    Pipeline.row(*[999] * 39)):
            for start in starts:
                low, high = self.quick(class_floor, net, start), self.quick(class_ceiling, net, start)
                self.assertTrue(all([a <= b <= c for a, b, c in zip(low, start, high)]))
                self.assertIs(self.quick(mutual, net, low, high), True)
                self.assertEqual(class_floor(net, high), low)
                self.assertEqual(class_ceiling(net, low), high)
                self.assertIs(self.quick(is_settled, net, low), self.quick(is_settled, net, high))
                self.quick(is_dead, net, start)
                self.assertEqual(self.quick(fixed_stages, net, low), fixed_stages(net, high))
                self.assertEqual(self.quick(hard_channels, net, low), hard_channels(net, high))


class TestWholeProgram(Case):
    """Point 2, for classes."""

    def test_nothing_passed_is_changed_and_equal_calls_are_equal(self):
        for _ in range(2):
            net, start = Pipeline.row(2, 2), (2, 1, 0)
            self.assertEqual(list(members(net, start)), [(2, 0, 0), (2, 1, 0), (2, 2, 0)])
            self.assertEqual(list(exits(net, start)), list(exits(ROW, START)))
            self.assertEqual((net, start), (ROW, START))

    def test_rows_of_results_are_tuples(self):
        found = list(exits(ROW, START))
        for row in (hard_channels(ROW, START), fixed_stages(ROW, START), class_floor(ROW, START),
                    class_ceiling(ROW, START),
                    *members(ROW, START), class_member(ROW, START, 0), *found, *found[0]):
            self.assertIs(type(row), tuple)
