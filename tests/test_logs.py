"""withincall/logs.py: point 25 of the document."""

import random

from tests.common import NEVER_MOVES, Case, behind, long_net, may_be_made, moves_of, random_state, small_net
from withincall.errors import InvalidMove, InvalidState
from withincall.logs import audit, repairs
from withincall.nets import Pipeline, Ring

ROW = Pipeline.row(2, 1)
START = (2, 1, 0)
WORDS = ("done", "refused")
UP = (2, "advance", "done")


def is_true(net, start, log):
    """Whether every line of the log is true, by the words of point 25."""
    state = start
    for stage, kind, word in log:
        allowed = may_be_made(net, state, (stage, kind))
        if allowed != (word == "done"):
            return False
        if word == "done":
            state = behind(state, (stage, kind))
    return True


def corrections(log):
    """All single corrections of the log, with the logs that they make."""
    made = {}
    for at, (stage, kind, word) in enumerate(log):
        other = "done" if word == "refused" else "refused"
        made[at, "strike"] = log[:at] + log[at + 1:]
        made[at, "turn"] = log[:at] + ((stage, kind, other),) + log[at + 1:]
    return made


def random_log(chance, net, start, many):
    """A log that is true, but for some lines perhaps."""
    state, log = start, []
    for _ in range(many):
        move = chance.choice(moves_of(net))
        allowed = may_be_made(net, state, move)
        log.append((*move, "done" if allowed else "refused"))
        state = behind(state, move) if allowed else state
    for _ in range(chance.choice((0, 1, 1, 2))):
        at = chance.randint(0, len(log))
        line = (*chance.choice(moves_of(net)), chance.choice(WORDS))
        # A line more, another line, or a line less.
        begin, end = chance.choice(((at, [line]), (at + 1, [line]), (at + 1, [])))
        log[at:begin] = end
    return tuple(log)


class TestDocumentExample(Case):

    def test_audit_and_repairs(self):
        log = (UP, UP)
        self.assertEqual([audit(ROW, START, log), repairs(ROW, START, log)],
                         [1, ((0, "strike"), (1, "strike"), (1, "turn"))])


class TestAudit(Case):

    def test_the_empty_log_is_true(self):
        for net, start in ((ROW, START), (ROW, (0, 9, 9)), (Pipeline(1), (5,)), (Ring(1, 1, 1), (1, 2, 3))):
            self.assertIsNone(audit(net, start, ()))
            self.assertEqual(repairs(net, start, ()), ())

    def test_each_kind_of_line(self):
        for stage, kind, allowed in ((0, "rollback", True), (1, "advance", True), (0, "advance", False),
                                     (2, "rollback", False), (2, "advance", True)):
            self.assertEqual(audit(ROW, START, ((stage, kind, "done"),)), None if allowed else 0)
            self.assertEqual(audit(ROW, START, ((stage, kind, "refused"),)), 0 if allowed else None)

    def test_a_refused_line_changes_nothing(self):
        down = (2, "rollback", "refused")
        log = (down, down, UP, down, (2, "advance", "refused"), (1, "advance", "done"), UP)
        self.assertIsNone(audit(ROW, START, log))

    def test_each_line_is_judged_behind_the_lines_before_it(self):
        log = ((1, "advance", "done"), UP)
        self.assertEqual(audit(ROW, START, log), 1)
        self.assertIsNone(audit(ROW, START, log[::-1]))

    def test_the_first_of_several_lines(self):
        wrong = (0, "advance", "done")
        self.assertEqual(audit(ROW, START, (UP, wrong, wrong, UP)), 1)
        self.assertEqual(audit(ROW, START, (wrong, UP, wrong)), 0)

    def test_random_logs(self):
        chance = random.Random(61)
        for _ in range(300):
            net = small_net(chance)
            start = random_state(chance, net, 3)
            log = random_log(chance, net, start, chance.randint(0, 12))
            untrue = [at for at in range(len(log)) if not is_true(net, start, log[:at + 1])]
            self.assertEqual(audit(net, start, log), untrue[0] if untrue else None)


class TestRepairs(Case):

    def test_a_true_log_may_have_repairs(self):
        down = (2, "rollback", "refused")
        self.assertEqual(repairs(ROW, START, (down,)), ((0, "strike"),))
        self.assertEqual(repairs(ROW, START, (UP,)), ((0, "strike"),))
        self.assertEqual(repairs(ROW, START, (UP, down)), ((0, "strike"), (1, "strike")))

    def test_each_kind_alone(self):
        self.assertEqual(repairs(ROW, START, ((2, "advance", "refused"),)), ((0, "strike"), (0, "turn")))
        # Only if the first line is turned the last one is true.
        log = ((2, "advance", "refused"), (1, "advance", "done"), UP)
        self.assertEqual(repairs(ROW, START, log), ((0, "turn"),))
        # Only if the first line is left out the others are true.
        log = ((1, "rollback", "done"), UP, (1, "advance", "done"), UP, (1, "advance", "refused"))
        self.assertEqual(repairs(ROW, START, log), ((0, "strike"),))

    def test_none(self):
        wrong = (0, "advance", "done")
        self.assertEqual(repairs(ROW, START, (wrong, wrong)), ())
        self.assertEqual(repairs(ROW, START, ((1, "advance", "done"), UP, UP)), ())

    def test_positions_are_in_ascending_order_as_numbers(self):
        log = ((2, "rollback", "refused"),) * 12
        self.assertEqual(repairs(ROW, START, log), tuple([(at, "strike") for at in range(12)]))

    def test_random_logs(self):
        chance = random.Random(62)
        for _ in range(300):
            net = small_net(chance)
            start = random_state(chance, net, 3)
            log = random_log(chance, net, start, chance.randint(0, 12))
            good = [key for key, other in corrections(log).items() if is_true(net, start, other)]
            self.assertEqual(repairs(net, start, log), tuple(sorted(good)))

    def test_logs_of_100_lines(self):
        chance = random.Random(63)
        net = long_net()
        start = tuple(range(999, 919, -2))
        for many in (100, 120):
            log = random_log(chance, net, start, many)[:many]
            good = [key for key, other in corrections(log).items() if is_true(net, start, other)]
            self.assertEqual(self.quick(repairs, net, start, log), tuple(sorted(good)))
        log = ((1, "rollback", "done"), (1, "advance", "done")) * 50
        self.assertIsNone(self.quick(audit, net, start, log))
        self.assertEqual(self.quick(audit, net, start, log[:99] + ((0, "advance", "done"),)), 99)


class TestErrors(Case):

    def test_the_state_comes_first(self):
        for call in (audit, repairs):
            for start, position in ((None, None), ((1, 2), None), ((0, 0, 1000), 2), ((0, True, 0), 1)):
                for log in ((), None, ((9, "advance", "done"),)):
                    self.fails(InvalidState, {"position": position}, call, ROW, start, log)

    def test_values_that_are_no_log(self):
        values = [None, True, 0, "", "done", [], [UP], {}, UP, range(0), (None,), ((),), (UP[:2],), ((*UP, 1),),
                  (list(UP),), (UP, (2, "advance", "made")), (UP, (2, "advance", None)), (UP, (2, "advance", True)),
                  (UP, (3, "advance", "done")), (UP, (True, "advance", "done")), (UP, (2, "done", "done"))]
        pairs = [value for value in NEVER_MOVES if isinstance(value, tuple) and len(value) == 2]
        for call in (audit, repairs):
            for value in values:
                self.fails(InvalidMove, {}, call, ROW, START, value)
            for pair in pairs:
                self.fails(InvalidMove, {}, call, ROW, START, ((0, "advance", "done"), (*pair, "done")))

    def test_a_wrong_line_counts_behind_a_line_that_is_not_true(self):
        for call in (audit, repairs):
            self.fails(InvalidMove, {}, call, ROW, START, ((0, "advance", "done"), UP, None))


class TestWholeProgram(Case):
    """Point 2, for logs."""

    def test_nothing_passed_is_changed_and_equal_calls_are_equal(self):
        for _ in range(2):
            net, log = Pipeline.row(2, 1), (UP, UP)
            self.assertEqual(audit(net, START, log), 1)
            self.assertEqual(repairs(net, START, log), ((0, "strike"), (1, "strike"), (1, "turn")))
            self.assertEqual((net, log), (ROW, (UP, UP)))

    def test_kinds_of_results(self):
        found = repairs(ROW, START, (UP, UP))
        self.assertIs(type(found), tuple)
        self.assertTrue(all(type(row) is tuple for row in found))
