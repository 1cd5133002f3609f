"""withincall/moves.py: points 12 to 15 of the document, and check_log of point 25."""

import inspect
import random

from tests.common import (
    KINDS, NEVER_MOVES, SAME, Case, behind, long_net, may_be_made, moves_of, random_nets, random_state, search,
    small_net)
from withincall.errors import Blocked, InvalidMove, InvalidState
from withincall.moves import (
    allowed_moves, blockers, can_move, check_log, check_move, make, mirror_move, opposite, run_moves, trace)
from withincall.nets import Pipeline, Ring
from withincall.states import check_state, loads, mirror_state

ROW = Pipeline.row(2, 1)
# Stage 2 draws from stages 0 and 1 and feeds stages 3 and 4.
CROSS = Pipeline(5, (0, 2, 2), (1, 2, 3), (2, 3, 1), (2, 4, 2))


def walk(net, state, moves):
    """All states of a trace, as a list."""
    return list(trace(net, state, moves))


# Each function that takes a state and a move.
STATE_AND_MOVE = (can_move, blockers, make)
STATE_AND_MOVES = (run_moves, walk)


class MoveCase(Case):

    def blocked(self, move, channels, at, call, *args):
        self.fails(Blocked, {"move": move, "channels": channels, "at": at}, call, *args)

    def no_move(self, call, *args):
        self.fails(InvalidMove, {}, call, *args)


class TestDocumentExamples(MoveCase):

    def test_blocked(self):
        moves = ((1, "advance"), (0, "rollback"))
        self.blocked((0, "rollback"), (0,), 1, run_moves, ROW, (2, 1, 0), moves)

    def test_allowed_moves(self):
        found = allowed_moves(ROW, (2, 1, 0))
        self.assertEqual(found, ((0, "rollback"), (1, "advance"), (1, "rollback"), (2, "advance")))


class TestAllowed(MoveCase):
    """Point 12."""

    def test_one_channel_in_each_condition(self):
        net = Pipeline.row(3)
        for amount, allowed in ((-5, False), (-1, False), (0, False), (1, True), (2, True), (3, True),
                                (4, False), (400, False)):
            state = (500 + amount, 500)
            for move in ((1, "advance"), (0, "rollback")):
                self.assertIs(can_move(net, state, move), allowed)
                self.assertEqual(blockers(net, state, move), () if allowed else (0,))
            for move in ((0, "advance"), (1, "rollback")):
                self.assertIs(can_move(net, state, move), False)
                self.assertEqual(blockers(net, state, move), ())

    def test_every_channel_of_the_side_must_be_ready(self):
        for state, channels in (((7, 7, 5, 0, 0), ()), ((8, 7, 5, 0, 0), (0,)), ((5, 7, 5, 0, 0), (0,)),
                                ((7, 9, 5, 0, 0), (1,)), ((4, 5, 5, 0, 0), (0, 1)), ((9, 9, 5, 0, 0), (0, 1)),
                                ((4, 9, 5, 0, 0), (0, 1)), ((6, 8, 5, 5, 5), ())):
            move = (2, "advance")
            self.assertEqual(blockers(CROSS, state, move), channels)
            self.assertIs(can_move(CROSS, state, move), channels == ())
            if channels:
                self.blocked(move, channels, 0, make, CROSS, state, move)

    def test_a_rollback_draws_from_the_outgoing_channels(self):
        for state, channels in (((0, 0, 5, 4, 3), ()), ((9, 9, 5, 4, 4), ()), ((5, 5, 5, 5, 4), (2,)),
                                ((5, 5, 5, 4, 2), (3,)), ((5, 5, 5, 6, 0), (2, 3)), ((5, 5, 5, 3, 5), (2, 3))):
            move = (2, "rollback")
            self.assertEqual(blockers(CROSS, state, move), channels)
            self.assertIs(can_move(CROSS, state, move), channels == ())

    def test_sources_never_advance_and_sinks_never_roll_back(self):
        for net, state in ((ROW, (5, 4, 4)), (ROW, (5, 5, 4)), (CROSS, (7, 7, 5, 4, 4))):
            for stage in range(net.stages):
                if not net.incoming(stage):
                    self.assertIs(can_move(net, state, (stage, "advance")), False)
                    self.blocked((stage, "advance"), (), 0, make, net, state, (stage, "advance"))
                if not net.outgoing(stage):
                    self.assertIs(can_move(net, state, (stage, "rollback")), False)
                    self.blocked((stage, "rollback"), (), 0, make, net, state, (stage, "rollback"))

    def test_stages_without_channels_never_move(self):
        for net, state in ((Pipeline(1), (0,)), (Pipeline(1), (999,)), (Pipeline(3), (5, 0, 999))):
            self.assertEqual(allowed_moves(net, state), ())
            for move in moves_of(net):
                self.assertEqual(blockers(net, state, move), ())
                self.blocked(move, (), 0, make, net, state, move)

    def test_nothing_limits_the_other_side(self):
        # Channel 1 becomes jammed by the advance, and channel 0 by the rollback.
        self.assertEqual(make(ROW, (2, 1, 0), (1, "advance")), (2, 2, 0))
        self.assertEqual(make(ROW, (3, 1, 0), (1, "rollback")), (3, 0, 0))
        # An owing channel on the other side may remain owing.
        self.assertEqual(make(ROW, (2, 1, 9), (1, "advance")), (2, 2, 9))
        self.assertEqual(make(ROW, (0, 9, 8), (1, "rollback")), (0, 8, 8))

    def test_a_jammed_channel_stays_jammed(self):
        for state in search(Pipeline.row(2, 1, 3), (6, 3, 4, 1)):
            self.assertGreater(state[0] - state[1], 2)

    def test_counters_at_the_ends(self):
        self.assertEqual(make(ROW, (1, 0, 0), (1, "advance")), (1, 1, 0))
        self.assertEqual(make(ROW, (1, 0, 0), (0, "rollback")), (0, 0, 0))
        self.assertEqual(make(ROW, (999, 998, 998), (1, "advance")), (999, 999, 998))
        self.assertEqual(make(ROW, (999, 999, 998), (2, "advance")), (999, 999, 999))
        self.assertEqual(allowed_moves(ROW, (0, 0, 0)), ())
        self.assertEqual(allowed_moves(ROW, (999, 999, 999)), ())
        self.assertEqual(allowed_moves(Pipeline.row(999), (999, 0)), ((0, "rollback"), (1, "advance")))
        self.assertEqual(allowed_moves(Pipeline.row(998), (999, 0)), ())
        self.assertEqual(allowed_moves(Pipeline.row(999), (0, 999)), ())

    def test_a_ring(self):
        net = Ring(1, 2, 1)
        self.assertEqual(allowed_moves(net, (1, 1, 1)), ())
        self.assertEqual(allowed_moves(net, (3, 2, 0)), ((0, "rollback"), (1, "advance"), (1, "rollback"),
                                                         (2, "advance")))
        self.assertEqual(allowed_moves(net, (0, 2, 1)), ((0, "advance"), (1, "rollback"), (2, "advance"),
                                                         (2, "rollback")))
        self.assertEqual(blockers(net, (3, 2, 0), (0, "advance")), (2,))

    def test_many_states_against_the_words(self):
        chance = random.Random(21)
        for net in random_nets():
            state = random_state(chance, net, chance.choice((3, 6)))
            allowed = [move for move in moves_of(net) if may_be_made(net, state, move)]
            self.assertEqual(allowed_moves(net, state), tuple(allowed))
            for move in moves_of(net):
                self.assertIs(can_move(net, state, move), move in allowed)
                side = net.incoming(move[0]) if move[1] == "advance" else net.outgoing(move[0])
                amounts = loads(net, state)
                closed = [k for k in side if not 1 <= amounts[k] <= net.channels[k][2]]
                self.assertEqual(blockers(net, state, move), tuple(closed))
                if move in allowed:
                    self.assertEqual(make(net, state, move), behind(state, move))
                else:
                    self.blocked(move, tuple(closed), 0, make, net, state, move)

    def test_how_a_move_changes_loads(self):
        chance = random.Random(22)
        for net in random_nets():
            state = random_state(chance, net, 3)
            before = loads(net, state)
            for stage, kind in allowed_moves(net, state):
                after = loads(net, make(net, state, (stage, kind)))
                change = 1 if kind == "advance" else -1
                for channel in range(len(net.channels)):
                    rise = change * ((channel in net.outgoing(stage)) - (channel in net.incoming(stage)))
                    self.assertEqual(after[channel], before[channel] + rise)

    def test_counters_stay_within_the_range_of_the_start(self):
        chance = random.Random(23)
        for _ in range(60):
            net = small_net(chance)
            start = random_state(chance, net, 4)
            for state in search(net, start):
                self.assertGreaterEqual(min(state), min(start))
                self.assertLessEqual(max(state), max(start))


class TestErrors(MoveCase):
    """Point 13."""

    def test_values_that_are_no_move(self):
        for net in (ROW, Ring(1, 1, 1)):
            state = (2, 1, 0)
            for value in (*NEVER_MOVES, (3, "advance"), (3, "rollback"), (999, "advance")):
                self.no_move(check_move, net, value)
                self.no_move(opposite, net, value)
                self.no_move(mirror_move, net, value)
                for call in STATE_AND_MOVE:
                    self.no_move(call, net, state, value)
                for call in STATE_AND_MOVES:
                    self.no_move(call, net, state, (value,))
                    self.no_move(call, net, state, ((1, "advance"), value))

    def test_check_move(self):
        for net in (ROW, CROSS, Ring(1, 1, 1), Pipeline(40)):
            for move in moves_of(net):
                self.assertIs(check_move(net, move), move)

    def test_the_state_comes_first(self):
        for state, position in ((None, None), ((2, 1), None), ((2, 1, 1000), 2), ((2, True, -1), 1)):
            for value in ((0, "rollback"), (0, "advance"), None, (9, "advance")):
                for call in STATE_AND_MOVE:
                    self.fails(InvalidState, {"position": position}, call, ROW, state, value)
                for call in STATE_AND_MOVES:
                    self.fails(InvalidState, {"position": position}, call, ROW, state, (value,))
            self.fails(InvalidState, {"position": position}, allowed_moves, ROW, state)

    def test_the_first_move_that_cannot_be_made(self):
        good, closed, wrong = (1, "advance"), (2, "rollback"), (3, "advance")
        for call in STATE_AND_MOVES:
            self.blocked(closed, (), 0, call, ROW, (2, 1, 0), (closed, wrong))
            self.blocked(closed, (), 1, call, ROW, (2, 1, 0), (good, closed, wrong, closed))
            self.blocked(closed, (), 0, call, ROW, (2, 1, 0), (closed, good, closed))
            self.no_move(call, ROW, (2, 1, 0), (wrong, closed))
            self.no_move(call, ROW, (2, 1, 0), (good, wrong, closed))
            # The second advance is blocked only because of the first one.
            self.blocked(good, (0,), 1, call, ROW, (2, 1, 0), (good, good))
        rows = ((2, "advance"), (2, "advance"), None)
        for call in STATE_AND_MOVES:
            self.blocked((2, "advance"), (1,), 1, call, ROW, (2, 1, 0), rows)

    def test_blocked_carries_the_move_that_was_given(self):
        move = tuple([0, "advance"])
        with self.assertRaises(Blocked) as caught:
            make(ROW, (2, 1, 0), move)
        self.assertEqual(caught.exception.move, (0, "advance"))
        self.assertIs(type(caught.exception.channels), tuple)


class TestRuns(MoveCase):
    """Point 14."""

    def test_the_empty_row(self):
        for net, state in ((ROW, (2, 1, 0)), (Pipeline(1), (5,)), (Ring(1, 1, 1), (9, 9, 9))):
            self.assertEqual(run_moves(net, state, ()), state)
            self.assertEqual(walk(net, state, ()), [state])

    def test_a_run(self):
        moves = ((2, "advance"), (1, "advance"), (2, "advance"), (0, "rollback"))
        self.blocked((0, "rollback"), (0,), 3, run_moves, ROW, (2, 1, 0), moves)
        self.assertEqual(run_moves(ROW, (2, 1, 0), moves[:3]), (2, 2, 2))
        self.assertEqual(walk(ROW, (2, 1, 0), moves[:3]), [(2, 1, 0), (2, 1, 1), (2, 2, 1), (2, 2, 2)])

    def test_a_run_there_and_back(self):
        moves = ((1, "advance"), (1, "rollback")) * 1500
        net = Pipeline.row(2, 2)
        self.assertEqual(run_moves(net, (2, 1, 0), moves), (2, 1, 0))
        self.assertEqual(len(walk(net, (2, 1, 0), moves)), 3001)

    def test_a_trace_is_a_generator_that_yields_all_states_before_the_error(self):
        for last, error in (((2, "rollback"), Blocked), (None, InvalidMove), ((1, "advance"), Blocked)):
            states = trace(ROW, (2, 1, 0), ((2, "advance"), (1, "advance"), last))
            self.assertTrue(inspect.isgenerator(states))
            self.assertEqual([next(states), next(states), next(states)], [(2, 1, 0), (2, 1, 1), (2, 2, 1)])
            with self.assertRaises(error) as caught:
                next(states)
            if error is Blocked:
                self.assertEqual(caught.exception.at, 2)

    def test_a_trace_yields_the_state_before_a_first_move_that_is_wrong(self):
        for first, error in ((None, InvalidMove), ((0, "advance"), Blocked)):
            states = trace(ROW, (2, 1, 0), (first,))
            self.assertEqual(next(states), (2, 1, 0))
            self.assertRaises(error, next, states)

    def test_random_runs(self):
        chance = random.Random(24)
        for net in random_nets():
            state = random_state(chance, net, 4)
            moves, states = [], [state]
            while len(moves) < 30 and allowed_moves(net, states[-1]):
                moves.append(chance.choice(allowed_moves(net, states[-1])))
                states.append(behind(states[-1], moves[-1]))
            self.assertEqual(walk(net, state, tuple(moves)), states)
            self.assertEqual(run_moves(net, state, tuple(moves)), states[-1])

    def test_a_long_run_in_a_large_net(self):
        net = long_net()
        state = tuple(range(998, 918, -2))
        moves = ((1, "rollback"), (1, "advance")) * 3000
        self.assertEqual(self.quick(run_moves, net, state, moves), state)
        self.assertEqual(len(self.quick(walk, net, state, moves)), 6001)
        self.blocked((0, "advance"), (), 6000, run_moves, net, state, (*moves, (0, "advance"), None))


class TestMirrors(MoveCase):
    """Point 15."""

    def test_opposite(self):
        self.assertEqual(opposite(ROW, (1, "advance")), (1, "rollback"))
        self.assertEqual(opposite(ROW, (0, "rollback")), (0, "advance"))
        for move in moves_of(CROSS):
            self.assertEqual(opposite(CROSS, opposite(CROSS, move)), move)

    def test_mirror_move(self):
        self.assertEqual(mirror_move(ROW, (1, "advance")), (1, "rollback"))
        self.assertEqual(mirror_move(ROW, (0, "rollback")), (2, "advance"))
        self.assertEqual(mirror_move(Pipeline(40), (39, "advance")), (0, "rollback"))
        for move in moves_of(CROSS):
            self.assertEqual(mirror_move(CROSS, mirror_move(CROSS, move)), move)

    def test_a_move_is_allowed_where_its_mirror_is(self):
        chance = random.Random(25)
        for net in random_nets():
            state = random_state(chance, net, chance.choice((3, 6, 999)))
            other, mirror = net.mirrored(), mirror_state(net, state)
            for move in moves_of(net):
                turned = mirror_move(net, move)
                allowed = can_move(net, state, move)
                self.assertIs(can_move(other, mirror, turned), allowed)
                if allowed:
                    after = make(net, state, move)
                    self.assertEqual(make(other, mirror, turned), mirror_state(net, after))


class TestCheckLog(MoveCase):
    """What point 25 says of check_log."""

    def test_logs(self):
        lines = [(*move, word) for move in moves_of(ROW) for word in ("done", "refused")]
        for log in ((), tuple(lines), (lines[0],) * 100, (lines[1],) * 150):
            self.assertIs(check_log(ROW, log), log)

    def test_values_that_are_no_log(self):
        line = (0, "advance", "done")
        for value in (None, True, 0, "", "done", [], [line], {}, {line: 1}, line, range(0), set()):
            self.no_move(check_log, ROW, value)

    def test_values_that_are_no_line(self):
        line = (0, "advance", "done")
        wrong = [
            None, 0, "done", (), (0, "advance"), (*line, 1), list(line), ("advance", 0, "done"), (line,),
            (0, "done", "advance"), (0, "advance", "advance"), (0, "advance", "Done"), (0, "advance", ""),
            (0, "advance", None), (0, "advance", True), (0, "advance", ["done"]), (0, "advance", b"done"),
            (0, "advance", ("done",)), (3, "advance", "done"), (0, "done", "done"), SAME, (0, "advance", SAME)]
        pairs = [value for value in NEVER_MOVES if isinstance(value, tuple) and len(value) == 2]
        wrong = wrong + [(*value, "done") for value in pairs] + [(value, "done") for value in pairs]
        for value in wrong:
            self.no_move(check_log, ROW, (value,))
            self.no_move(check_log, ROW, (line, value, line))

    def test_a_log_need_not_be_true(self):
        log = ((0, "advance", "done"), (2, "rollback", "done"))
        self.assertIs(check_log(ROW, log), log)


class TestWholeProgram(MoveCase):
    """Point 2, for moves."""

    def test_nothing_passed_is_changed_and_equal_calls_are_equal(self):
        moves = ((2, "advance"), (1, "advance"))
        for _ in range(2):
            net, state = Pipeline.row(2, 1), (2, 1, 0)
            self.assertEqual(allowed_moves(net, state), allowed_moves(ROW, (2, 1, 0)))
            self.assertEqual(run_moves(net, state, moves), (2, 2, 1))
            self.assertEqual(walk(net, state, moves), [(2, 1, 0), (2, 1, 1), (2, 2, 1)])
            self.assertEqual((net, state), (ROW, (2, 1, 0)))
        self.assertEqual(moves, ((2, "advance"), (1, "advance")))

    def test_rows_of_results_are_tuples(self):
        for net in (ROW, Ring(1, 1, 1), Pipeline(3)):
            state = (2, 1, 0)
            self.assertIs(type(allowed_moves(net, state)), tuple)
            for row in (*allowed_moves(net, state), opposite(net, (0, "advance")), mirror_move(net, (0, "advance")),
                        blockers(net, state, (0, "advance")), run_moves(net, state, ()), *trace(net, state, ())):
                self.assertIs(type(row), tuple)
            for kind in KINDS:
                self.assertIs(check_state(net, state), state)
                self.assertIs(type(blockers(net, state, (1, kind))), tuple)
