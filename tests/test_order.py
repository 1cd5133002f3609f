"""withincall/order.py: points 38 to 42 of the document, and what point 23 says of `MoveOrder`."""

import itertools
import random

from tests.common import NEVER_NUMBERS, SAME, Case, behind, lively_case, long_net, may_be_made, moves_of
from withincall.errors import InvalidState, NotFound, TooLarge, Unreachable
from withincall.moves import run_moves
from withincall.nets import Pipeline, Ring
from withincall.order import MoveOrder
from withincall.reach import distance, first_moves, is_plan, plan
from withincall.states import mirror_state

ROW = Pipeline.row(2, 1)
WIDE = Pipeline.row(999, 999, 999)
# Fourteen pairs of stages, of which the second one of each may advance.
PAIRS = Pipeline(28, *[(2 * k, 2 * k + 1, 999) for k in range(14)])


def paired(*steps):
    """The order in which the pairs' second stages make so many steps."""
    more = [0] * (14 - len(steps))
    target = tuple(itertools.chain(*[(999, many) for many in [*steps, *more]]))
    return MoveOrder(PAIRS, (999, 0) * 14, target)


def all_plans(net, start, target):
    """All runs of the least length, in ascending order, found by going through all moves."""
    rows = [((), start)]
    left = sum(abs(a - b) for a, b in zip(start, target))
    while left:
        left -= 1
        longer = [((*row, move), behind(state, move)) for row, state in rows for move in moves_of(net)
                  if may_be_made(net, state, move)]
        rows = [(row, state) for row, state in longer if sum(abs(a - b) for a, b in zip(state, target)) == left]
    return [row for row, _ in rows]


def as_steps(row):
    """The moves of a plan as steps."""
    found = []
    for stage, _ in row:
        found.append((stage, [other for other, _ in found].count(stage) + 1))
    return tuple(found)


def words_needs(net, start, target):
    """The reasons for all pairs (earlier, later) of steps, by the words of point 39."""
    change = [b - a for a, b in zip(start, target)]
    steps = [(v, i) for v in range(net.stages) for i in range(1, abs(change[v]) + 1)]
    found = {((v, i - 1), (v, i)): ("own", v) for v, i in steps if i >= 2}
    for channel, (a, b, c) in enumerate(net.channels):
        load = start[a] - start[b]
        if change[a] > 0 and change[b] > 0:
            for i in range(1, change[b] + 1):
                if (a, i - load) in steps:
                    found[((a, i - load), (b, i))] = ("item", channel)
                if (a, i - load + c) in steps:
                    found[((b, i), (a, i - load + c))] = ("room", channel)
        if change[a] < 0 and change[b] < 0:
            for i in range(1, -change[a] + 1):
                if (b, i - load) in steps:
                    found[((b, i - load), (a, i))] = ("item", channel)
                if (b, i - load + c) in steps:
                    found[((a, i), (b, i - load + c))] = ("room", channel)
    return found


def small_orders(seed, many, most):
    """Nets with starts and reached targets at distances up to the given one."""
    chance = random.Random(seed)
    for _ in range(many):
        net, start, found = lively_case(chance, chance.choice((2, 3, 4)))
        reached = sorted([(size, state) for state, size in found.items() if size <= most])
        target = chance.choice([state for size, state in reached if 2 * size >= reached[-1][0]])
        yield net, start, target


class TestDocumentExample(Case):

    def test_all(self):
        order = MoveOrder(ROW, (2, 1, 0), (2, 2, 2))
        found = [order.total, order.depth, order.rounds(), order.reason((2, 1), (1, 1)), order.number_of_plans()]
        self.assertEqual(found, [3, 3, (((2, 1),), ((1, 1),), ((2, 2),)), ("room", 1), 1])


class TestSteps(Case):
    """Point 38."""

    def test_advances_and_rollbacks(self):
        order = MoveOrder(Pipeline(4, (0, 1, 9), (2, 3, 9)), (5, 2, 5, 2), (3, 2, 5, 4))
        self.assertEqual(order.steps(), ((0, 1), (0, 2), (3, 1), (3, 2)))
        self.assertEqual(order.total, 4)
        self.assertEqual(list(order.plans())[0], ((0, "rollback"), (0, "rollback"), (3, "advance"), (3, "advance")))
        self.assertEqual(order.number_of_plans(), 6)

    def test_no_steps(self):
        for net, state in ((ROW, (2, 1, 0)), (ROW, (0, 9, 3)), (Pipeline(1), (7,)), (Ring(1, 1, 1), (0, 5, 9))):
            order = MoveOrder(net, state, state)
            self.assertEqual((order.total, order.depth), (0, 0))
            self.assertEqual((order.steps(), order.rounds(), order.critical_chain()), ((), (), ()))
            self.assertEqual((list(order.plans()), order.number_of_plans()), ([()], 1))
            self.assertIs(order.is_order(()), True)
            self.assertIs(order.are_rounds(()), True)
            self.assertIs(order.are_rounds(((),)), False)
            self.assertIs(order.is_order(((0, 1),)), False)
            for call in (order.needs, order.round_of, order.latest_round):
                self.fails(NotFound, {"number": (0, 1)}, call, (0, 1))

    def test_as_many_as_the_distance(self):
        for net, start, target in small_orders(101, 100, 9):
            order = MoveOrder(net, start, target)
            self.assertEqual(order.total, distance(net, start, target))
            expected = tuple([(v, i) for v in range(net.stages) for i in range(1, abs(start[v] - target[v]) + 1)])
            self.assertEqual(order.steps(), expected)


class TestNeeds(Case):
    """Point 39."""

    def check(self, net, start, target, reasons):
        """These are the reasons of all pairs of steps of which one needs the other."""
        order = MoveOrder(net, start, target)
        for later in order.steps():
            needed = [earlier for earlier, step in reasons if step == later]
            self.assertEqual(order.needs(later), tuple(sorted(needed)))
            for earlier in order.steps():
                self.assertEqual(order.reason(earlier, later), reasons.get((earlier, later)))

    def test_own(self):
        net = Pipeline.row(9)
        self.check(net, (9, 0), (9, 3), {((1, 1), (1, 2)): ("own", 1), ((1, 2), (1, 3)): ("own", 1)})
        self.check(net, (9, 6), (7, 6), {((0, 1), (0, 2)): ("own", 0)})

    def test_items_and_room_for_advances(self):
        # Channel 1 holds one item and has room for two.
        self.check(Pipeline.row(9, 2), (9, 1, 0), (9, 4, 4), {
            ((1, 1), (1, 2)): ("own", 1), ((1, 2), (1, 3)): ("own", 1),
            ((2, 1), (2, 2)): ("own", 2), ((2, 2), (2, 3)): ("own", 2), ((2, 3), (2, 4)): ("own", 2),
            ((1, 1), (2, 2)): ("item", 1), ((1, 2), (2, 3)): ("item", 1), ((1, 3), (2, 4)): ("item", 1),
            ((2, 1), (1, 2)): ("room", 1), ((2, 2), (1, 3)): ("room", 1)})

    def test_items_and_room_for_rollbacks(self):
        self.check(Pipeline.row(2, 9), (5, 4, 0), (1, 1, 0), {
            ((1, 1), (1, 2)): ("own", 1), ((1, 2), (1, 3)): ("own", 1),
            ((0, 1), (0, 2)): ("own", 0), ((0, 2), (0, 3)): ("own", 0), ((0, 3), (0, 4)): ("own", 0),
            ((1, 1), (0, 2)): ("item", 0), ((1, 2), (0, 3)): ("item", 0), ((1, 3), (0, 4)): ("item", 0),
            ((0, 1), (1, 2)): ("room", 0), ((0, 2), (1, 3)): ("room", 0)})

    def test_loads_below_0_and_jammed_channels(self):
        # The channel owes an item, so the consumer's first step needs the producer's second one.
        order = MoveOrder(Pipeline.row(9, 9), (9, 2, 3), (9, 5, 4))
        self.assertEqual(order.needs((2, 1)), ((1, 2),))
        self.assertEqual(order.reason((1, 2), (2, 1)), ("item", 1))
        self.assertIsNone(order.reason((1, 1), (2, 1)))
        # The channel is full, so the producer's first step needs the consumer's first one.
        order = MoveOrder(Pipeline.row(9, 2), (9, 2, 0), (9, 4, 3))
        self.assertEqual(order.needs((1, 1)), ((2, 1),))
        self.assertEqual(order.reason((2, 1), (1, 1)), ("room", 1))

    def test_stages_that_move_apart_or_together_need_nothing_of_each_other(self):
        order = MoveOrder(Pipeline.row(9, 9, 9), (9, 8, 4, 0), (9, 6, 6, 0))
        self.assertEqual(order.needs((1, 1)), ())
        self.assertEqual(order.needs((2, 1)), ())
        self.assertEqual(order.number_of_plans(), 6)

    def test_against_the_words(self):
        kinds = []
        for net, start, target in small_orders(102, 250, 12):
            reasons = words_needs(net, start, target)
            kinds += [(reason, start[later[0]] < target[later[0]]) for (_, later), (reason, _) in reasons.items()]
            self.check(net, start, target, reasons)
        for reason in ("own", "item", "room"):
            for advances in (True, False):
                self.assertGreater(kinds.count((reason, advances)), 20)


class TestPlans(Case):
    """Points 40 and 42."""

    def test_small_nets(self):
        counts = []
        for net, start, target in small_orders(103, 500, 8):
            order = MoveOrder(net, start, target)
            expected = all_plans(net, start, target)
            self.assertEqual(list(order.plans()), expected)
            self.assertEqual(expected, sorted(expected))
            self.assertEqual(order.number_of_plans(), len(expected))
            self.assertEqual(plan(net, start, target), expected[0])
            self.assertEqual(first_moves(net, start, target), tuple(sorted({row[0] for row in expected if row})))
            counts.append(len(expected))
            rows = [as_steps(row) for row in expected]
            for first in order.steps():
                for second in order.steps():
                    before = first != second and all([row.index(first) < row.index(second) for row in rows])
                    self.assertIs(order.comes_before(first, second), before)
        self.assertGreater(len([count for count in counts if count > 3]), 30)

    def test_all_rows_of_a_few_steps(self):
        met = {True: 0, False: 0}
        for net, start, target in small_orders(104, 150, 6):
            order = MoveOrder(net, start, target)
            rows = [as_steps(row) for row in all_plans(net, start, target)]
            for row in itertools.permutations(order.steps()):
                self.assertIs(order.is_order(row), row in rows)
                met[row in rows] += 1
        self.assertGreater(min(met.values()), 100)

    def test_two_steps_of_a_stage_in_the_wrong_order(self):
        order = MoveOrder(Pipeline.row(9), (9, 0), (9, 2))
        self.assertIs(order.is_order(((1, 1), (1, 2))), True)
        self.assertIs(order.is_order(((1, 2), (1, 1))), False)

    def test_rows_that_are_wrong_in_one_place(self):
        order = MoveOrder(ROW, (2, 1, 0), (2, 2, 2))
        good = ((2, 1), (1, 1), (2, 2))
        self.assertIs(order.is_order(good), True)
        for place in range(3):
            for other in ((2, 1), (1, 1), (2, 2), (2, 3), (1, 0), (1, 2), (0, 1), (3, 1), (-1, 1)):
                row = good[:place] + (other,) + good[place + 1:]
                self.assertIs(order.is_order(row), row == good)
            self.assertIs(order.is_order(good[:place] + good[place + 1:]), False)
            self.assertIs(order.is_order(good[:place] + good[place:place + 1] + good[place:]), False)

    def test_one_after_another_as_soon_as_found(self):
        order = paired(*[5] * 14)
        first, second = itertools.islice(order.plans(), 2)
        self.assertEqual(first, tuple([(2 * k + 1, "advance") for k in range(14) for _ in range(5)]))
        self.assertEqual(second[:-6], first[:-6])
        self.assertEqual([stage for stage, _ in second[-6:]], [27, 25, 27, 27, 27, 27])

    def test_two_generators_at_once(self):
        order = paired(1, 1, 1)
        pairs = list(zip(order.plans(), order.plans()))
        self.assertEqual(len(pairs), 6)
        self.assertTrue(all([first == second for first, second in pairs]))

    def test_a_product_of_20000_and_of_20001(self):
        # 20000 is 2 * 2 * 2 * 2 * 2 * 5 * 5 * 5 * 5, and 20001 is 3 * 59 * 113.
        order = paired(1, 1, 1, 1, 1, 4, 4, 4, 4)
        self.assertEqual(self.quick(order.number_of_plans), 51090942171709440000 // 24 ** 4)
        order = paired(2, 58, 112)
        self.fails(TooLarge, {"size": 20001, "most": 20000}, order.number_of_plans)
        self.assertEqual(order.total, 172)
        self.fails(TooLarge, {"size": 2 ** 15, "most": 20000}, paired(3, *[1] * 13).number_of_plans)
        self.assertEqual(self.quick(paired(*[1] * 14).number_of_plans), 87178291200)
        order = MoveOrder(Pipeline.row(999), (999, 0), (999, 999))
        self.assertEqual(order.number_of_plans(), 1)

    def test_the_product_counts_all_stages_also_where_one_waits_for_another(self):
        net = Pipeline.row(999, 1)
        order = MoveOrder(net, (999, 0, 0), (999, 150, 150))
        self.fails(TooLarge, {"size": 151 * 151, "most": 20000}, order.number_of_plans)
        order = MoveOrder(net, (999, 0, 0), (999, 140, 140))
        self.assertEqual(self.quick(order.number_of_plans), 1)
        self.assertEqual(len(list(order.plans())), 1)


class TestRounds(Case):
    """Point 41."""

    def test_small_nets(self):
        """Go through all ways to put the steps into rounds."""
        depths = []
        for net, start, target in small_orders(105, 120, 5):
            order = MoveOrder(net, start, target)
            steps = order.steps()
            reasons = words_needs(net, start, target)
            valid = {}
            for many in range(1, len(steps) + 1):
                for numbers in itertools.product(range(many), repeat=len(steps)):
                    at = dict(zip(steps, numbers))
                    rounds = tuple([tuple([step for step in steps if at[step] == k]) for k in range(many)])
                    good = all(rounds) and all([at[earlier] < at[later] for earlier, later in reasons])
                    self.assertIs(order.are_rounds(rounds), good)
                    self.assertIs(order.are_rounds(tuple([row[::-1] for row in rounds])), good)
                    if good:
                        valid.setdefault(many, []).append(at)
            self.assertEqual(order.depth, min(valid, default=0))
            for step in steps:
                self.assertEqual(order.round_of(step), 1 + min([at[step] for row in valid.values() for at in row]))
                self.assertEqual(order.latest_round(step), 1 + max([at[step] for at in valid[order.depth]]))
            depths.append(order.depth)
        self.assertGreater(len([depth for depth in depths if depth > 2]), 20)

    def test_rounds_and_chains(self):
        for net, start, target in small_orders(106, 250, 14):
            order = MoveOrder(net, start, target)
            rounds = order.rounds()
            self.assertEqual(len(rounds), order.depth)
            self.assertIs(order.are_rounds(rounds), True)
            for number, row in enumerate(rounds, start=1):
                self.assertEqual(row, tuple([step for step in order.steps() if order.round_of(step) == number]))
            for step in order.steps():
                self.assertLessEqual(order.round_of(step), order.latest_round(step))
                least = max([order.round_of(earlier) for earlier in order.needs(step)], default=0)
                self.assertEqual(order.round_of(step), least + 1)
            chain = order.critical_chain()
            self.assertEqual(len(chain), order.depth)
            for earlier, later in zip(chain, chain[1:]):
                self.assertIn(earlier, order.needs(later))
            for step in chain:
                self.assertEqual(order.latest_round(step), order.round_of(step))

    def test_the_moves_of_a_round_in_any_order(self):
        chance = random.Random(107)
        for net, start, target in small_orders(107, 100, 12):
            order = MoveOrder(net, start, target)
            row = [step for steps in order.rounds() for step in chance.sample(steps, len(steps))]
            kinds = {v: "advance" if a < b else "rollback" for v, (a, b) in enumerate(zip(start, target))}
            self.assertIs(order.is_order(tuple(row)), True)
            self.assertIs(is_plan(net, start, target, tuple([(v, kinds[v]) for v, _ in row])), True)

    def test_more_rounds_than_the_depth(self):
        order = paired(1, 2)
        self.assertEqual(order.rounds(), (((1, 1), (3, 1)), ((3, 2),)))
        self.assertEqual((order.latest_round((1, 1)), order.latest_round((3, 1)), order.latest_round((3, 2))),
                         (2, 1, 2))
        for rounds in ((((3, 1), (1, 1)), ((3, 2),)), (((3, 1),), ((1, 1), (3, 2))), (((3, 1),), ((3, 2), (1, 1))),
                       (((1, 1),), ((3, 1),), ((3, 2),)), (((3, 1),), ((3, 2),), ((1, 1),))):
            self.assertIs(order.are_rounds(rounds), True)

    def test_rounds_that_are_wrong_in_one_place(self):
        order = paired(1, 2)
        for rounds in ((((1, 1), (3, 1)),), (((1, 1), (3, 1), (3, 2)),), (((3, 2),), ((1, 1), (3, 1))),
                       (((1, 1), (3, 1)), ((3, 2),), ()), ((), ((1, 1), (3, 1)), ((3, 2),)),
                       (((1, 1), (3, 1)), (), ((3, 2),)), (((1, 1), (3, 1)), ((3, 2), (1, 1))),
                       (((1, 1), (1, 1), (3, 1)), ((3, 2),)), (((1, 1), (3, 1)), ((3, 2),), ((3, 2),)),
                       (((1, 1), (3, 1)), ((3, 3),)), (((1, 1), (3, 1)), ((3, 2), (3, 3))),
                       (((0, 1), (3, 1)), ((3, 2),)), (((3, 1),), ((3, 2),)), ()):
            self.assertIs(order.are_rounds(rounds), False)


class TestValuesOfAnyKind(Case):

    def test_orders_and_rounds(self):
        order = paired(1, 2)
        row = ((1, 1), (3, 1), (3, 2))
        rounds = (((1, 1), (3, 1)), ((3, 2),))
        self.assertIs(order.is_order(row), True)
        self.assertIs(order.are_rounds(rounds), True)
        never = [None, True, 3, "", "row", [], {}, list(row), {step: True for step in row}, SAME, (SAME,) * 3,
                 (None,) * 3,
                 10 ** 5000]
        for value in never + [rounds, ([1, 1], (3, 1), (3, 2)), ((1, 1, 1), (3, 1), (3, 2)), ("11", (3, 1), (3, 2))]:
            self.assertIs(order.is_order(value), False)
        for value in never + [row, list(rounds), ([(1, 1), (3, 1)], ((3, 2),)), (((1, 1), [3, 1]), ((3, 2),)),
                              (((1, 1), (3, 1)), {(3, 2): True}), (((1, 1), (3, 1)), SAME), (rounds,)]:
            self.assertIs(order.are_rounds(value), False)
        for number in (*NEVER_NUMBERS, SAME):
            for step in ((number, 1), (1, number), number):
                self.assertIs(order.is_order((step, (3, 1), (3, 2))), False)
                self.assertIs(order.are_rounds(((step, (3, 1)), ((3, 2),))), False)


class TestErrors(Case):

    def test_states_come_first_in_their_order(self):
        for state, position in ((None, None), ((1, 2), None), ((0, 0, 1000), 2), ((True, 0, -1), 0), ([2, 1, 0], None)):
            for other in ((2, 1, 0), (0, 9, 9), None):
                self.fails(InvalidState, {"position": position}, MoveOrder, ROW, state, other)
            self.fails(InvalidState, {"position": position}, MoveOrder, ROW, (2, 1, 0), state)

    def test_unreachable_comes_before_too_large(self):
        start = (999, 0, 0, 0)
        self.fails(Unreachable, {"objection": ("jammed", 1)}, MoveOrder, ROW, (2, 2, 0), (2, 2, 1))
        self.fails(Unreachable, {"objection": ("orphan", 2)}, MoveOrder, WIDE, start, (999, 999, 998, 999))
        self.fails(Unreachable, {"objection": ("jammed", 0)}, MoveOrder, ROW, (9, 5, 1), (8, 9, 2))

    def test_distances_of_2000_and_2001(self):
        start = (999, 0, 0, 0)
        order = self.quick(MoveOrder, WIDE, start, (999, 999, 999, 2))
        self.assertEqual(order.total, 2000)
        self.fails(TooLarge, {"size": 2001, "most": 2000}, MoveOrder, WIDE, start, (999, 999, 999, 3))
        self.fails(TooLarge, {"size": 2997, "most": 2000}, MoveOrder, WIDE, start, (999, 999, 999, 999))

    def test_no_steps_of_the_order(self):
        order = MoveOrder(ROW, (2, 1, 0), (2, 2, 2))
        bad = [None, True, 0, 1, "", "11", (), (1,), (1, 1, 1), [1, 1], {1: 1}, (0, 1), (1, 0), (1, 2), (2, 3),
               (2, -1), (-2, 1), (3, 1), (2, True), (True, 1), (2, None), (2, "1"), ("2", 1), (2, 1.0), (2.0, 1),
               ((2,), 1), (2, (1,)), ((2, 1),),
               (2, 10 ** 5000), (10 ** 5000, 1), (2, "advance"), SAME, (SAME, 1), (2, SAME)]
        for value in bad:
            for call in (order.needs, order.round_of, order.latest_round):
                self.fails(NotFound, {"number": value}, call, value)
            for call in (order.reason, order.comes_before):
                self.fails(NotFound, {"number": value}, call, value, (2, 1))
                self.fails(NotFound, {"number": value}, call, (2, 1), value)
                self.fails(NotFound, {"number": value}, call, value, None)

    def test_a_step_does_not_come_before_itself(self):
        order = MoveOrder(ROW, (2, 1, 0), (2, 2, 2))
        for step in order.steps():
            self.assertIs(order.comes_before(step, step), False)
            self.assertIsNone(order.reason(step, step))


class TestWork(Case):

    def test_large_nets(self):
        dense = Pipeline(40, *[(a, b, 999) for b in range(16) for a in range(b)])
        for net, start, target in (
                (long_net(), (999,) + (949,) * 39, (999,) * 40),
                (long_net(capacity=1), (999,) + (998,) * 39, (999,) * 40),
                (dense, (999,) + (866,) * 15 + (0,) * 24, (999,) * 16 + (0,) * 24),
                (WIDE, (999, 0, 0, 0), (999, 999, 999, 2)),
                (Ring(*[999] * 40), (0,) * 39 + (53,), (51,) * 39 + (53,)),
                (Pipeline.row(*[1] * 39), (999,) + (998,) * 39, (999,) * 40)):
            order = self.quick(MoveOrder, net, start, target)
            self.assertEqual(order.total, distance(net, start, target))
            steps = order.steps()
            rounds = self.quick(order.rounds)
            self.assertIs(self.quick(order.are_rounds, rounds), True)
            self.assertIs(self.quick(order.is_order, tuple([step for row in rounds for step in row])), True)
            self.assertEqual(len(self.quick(order.critical_chain)), order.depth)
            first = self.quick(lambda: next(order.plans()))
            self.assertEqual(run_moves(net, start, first), target)
            self.assertEqual(first, plan(net, start, target))
            self.assertIs(self.quick(order.comes_before, order.critical_chain()[0], order.critical_chain()[-1]), True)
            self.assertIs(self.quick(order.comes_before, steps[-1], steps[0]), False)
            for step in steps:
                self.assertLessEqual(order.round_of(step), order.latest_round(step))


class TestWholeProgram(Case):
    """Point 2, for orders."""

    def test_mirrored(self):
        for net, start, target in small_orders(108, 80, 10):
            order = MoveOrder(net, start, target)
            mirror = MoveOrder(net.mirrored(), mirror_state(net, start), mirror_state(net, target))
            self.assertEqual((mirror.total, mirror.depth), (order.total, order.depth))
            self.assertEqual(mirror.number_of_plans(), order.number_of_plans())
            last = net.stages - 1
            for later in order.steps():
                self.assertEqual(mirror.round_of((last - later[0], later[1])), order.round_of(later))
                for earlier in order.steps():
                    reason = order.reason(earlier, later)
                    other = mirror.reason((last - earlier[0], earlier[1]), (last - later[0], later[1]))
                    self.assertEqual(reason and reason[0], other and other[0])

    def test_nothing_passed_is_changed_and_equal_calls_are_equal(self):
        net, start, target = Pipeline.row(2, 1), (2, 1, 0), (2, 2, 2)
        order = MoveOrder(net, start, target)
        for _ in range(2):
            other = MoveOrder(ROW, start, target)
            for name, args in (("steps", ()), ("needs", ((2, 2),)), ("reason", ((2, 1), (1, 1))), ("rounds", ()),
                               ("comes_before", ((2, 1), (2, 2))), ("round_of", ((2, 2),)), ("latest_round", ((2, 2),)),
                               ("critical_chain", ()), ("number_of_plans", ())):
                self.assertEqual(getattr(order, name)(*args), getattr(other, name)(*args))
            self.assertEqual(list(order.plans()), list(other.plans()))
        self.assertEqual((net, start, target), (ROW, (2, 1, 0), (2, 2, 2)))

    def test_rows_of_results_are_tuples(self):
        order = MoveOrder(ROW, (2, 1, 0), (2, 2, 2))
        for row in (order.steps(), *order.steps(), order.needs((2, 2)), order.needs((2, 1)),
                    order.reason((2, 1), (1, 1)),
                    order.rounds(), *order.rounds(), order.rounds()[0][0], order.critical_chain(),
                    order.critical_chain()[0],
                    next(order.plans()), next(order.plans())[0]):
            self.assertIs(type(row), tuple)

    def test_properties_cannot_be_assigned(self):
        order = MoveOrder(ROW, (2, 1, 0), (2, 2, 2))
        for name in ("total", "depth"):
            with self.assertRaises(AttributeError):
                setattr(order, name, 5)
