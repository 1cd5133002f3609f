"""withincall/desk.py: points 58 to 66 of the document, and what points 23 and 30 say of the desk."""

import random

from tests.common import (
    NEVER_MOVES, NEVER_NUMBERS, SAME, Case, behind, lively_case, long_net, may_be_made, moves_of, search)
from withincall.boxes import Box
from withincall.desk import Desk
from withincall.errors import (
    Blocked, InvalidBox, InvalidLimit, InvalidMove, InvalidName, InvalidNet, InvalidState, NoState, NotFound,
    NothingToRedo, NothingToUndo, TooLarge, Unreachable, Unrecoverable, UnknownName, WithinCallError)
from withincall.lattice import is_certificate, nearest
from withincall.moves import run_moves
from withincall.nets import Pipeline, Ring
from withincall.reach import distance, first_moves, objections, plan
from withincall.recovery import cheapest
from withincall.texts import channel_table

ROW = Pipeline.row(2, 1)
START = (2, 1, 0)
WIDE = Pipeline.row(999, 999, 999)
NEVER_STATES = ((None, None), ((2, 1), None), ((2, 1, 1000), 2), ((2, True, -1), 1), ([2, 1, 0], None), ("210", None))
NEVER_NAMES = ("", "a" * 13, "A", "aB", "a1", "a b", " a", "a ", "a\n", "a_b", "a-b", "0", "\u00e9", "\u00df",
               "a\u0301",
               "\u0430")


def desk_of(net=ROW, state=START, **named):
    return Desk(net, state, **named)


def snapshot(desk):
    """All that can be seen of a desk without changing it."""
    twin = desk.twin()
    undone = []
    while True:
        try:
            undone.append((twin.redo(), twin.net.channels, twin.state, twin.moves_made, twin.history()))
        except NothingToRedo:
            break
    twin = desk.twin()
    done = []
    while True:
        try:
            done.append((twin.undo(), twin.net.channels, twin.state, twin.moves_made, twin.history()))
        except NothingToUndo:
            break
    targets = [(name, desk.twin().unwatch(name)) for name, _ in desk.statuses()]
    return (desk.net.channels, desk.net.is_ring(), desk.state, desk.moves_made, desk.limit, desk.history(),
            desk.statuses(),
            desk.table(), targets, done, undone)


class DeskCase(Case):

    def unchanged(self, desk, error, attributes, call, *args, **named):
        """The call raises the error, and nothing of the desk has changed."""
        before = snapshot(desk)
        self.fails(error, attributes, call, *args, **named)
        self.assertEqual(snapshot(desk), before)


class TestDocumentExample(Case):

    def test_all(self):
        desk = Desk(Pipeline.row(2, 1), (2, 1, 0))
        self.assertEqual(desk.watch("full", (2, 2, 2)), "ahead")
        self.assertEqual(desk.advance(1), (2, 2, 0))
        self.assertEqual(desk.status("full"), "lost")
        self.assertEqual(desk.undo(), "advance")
        self.assertEqual(desk.go((2, 2, 2)), (2, 2, 2))
        found = [desk.state, desk.moves_made, desk.history(), desk.status("full")]
        self.assertEqual(found, [(2, 2, 2), 3, ("go",), "here"])


class TestNewDesks(DeskCase):
    """Point 58."""

    def test_what_it_holds(self):
        desk = desk_of()
        self.assertEqual((desk.net, desk.state, desk.limit, desk.moves_made), (ROW, START, 100, 0))
        self.assertEqual((desk.history(), desk.statuses()), ((), ()))
        self.assertEqual(desk.table(), channel_table(ROW, START))
        self.assertEqual(Desk(Ring(1, 1, 1), (0, 9, 5), limit=1).limit, 1)
        self.assertEqual(Desk(Pipeline(1), (0,), limit=1000).limit, 1000)

    def test_the_state_comes_first(self):
        for state, position in NEVER_STATES:
            self.fails(InvalidState, {"position": position}, Desk, ROW, state)
            self.fails(InvalidState, {"position": position}, Desk, ROW, state, limit=0)
            self.fails(InvalidState, {"position": position}, Desk, ROW, state, limit=None)

    def test_limits(self):
        for value in (*NEVER_NUMBERS, 0, 1001, 100.0, "100", (100,), SAME):
            self.fails(InvalidLimit, {"value": value}, Desk, ROW, START, limit=value)

    def test_the_limit_is_given_by_name(self):
        with self.assertRaises(TypeError):
            Desk(ROW, START, 100)

    def test_properties_that_cannot_be_assigned(self):
        for name in ("net", "state", "moves_made"):
            with self.assertRaises(AttributeError):
                setattr(desk_of(), name, START)


class TestMoves(DeskCase):
    """Point 59: advance, rollback and run."""

    def test_one_move(self):
        self.assertEqual(desk_of().advance(1), (2, 2, 0))
        self.assertEqual(desk_of().rollback(1), (2, 0, 0))
        desk = desk_of()
        self.assertEqual(desk.advance(2), (2, 1, 1))
        self.assertEqual(desk.rollback(0), (1, 1, 1))
        self.assertEqual((desk.history(), desk.moves_made), (("advance", "rollback"), 2))

    def test_blocked_moves(self):
        for call, stage, move, channels in (("advance", 0, (0, "advance"), ()), ("rollback", 2, (2, "rollback"), ()),
                                            ("advance", 2, (2, "advance"), (1,)),
                                            ("rollback", 1, (1, "rollback"), (1,))):
            desk = desk_of(state=(2, 2, 0))
            self.unchanged(desk, Blocked, {"move": move, "channels": channels, "at": 0}, getattr(desk, call), stage)

    def test_no_stages(self):
        desk = desk_of()
        for value in (*NEVER_NUMBERS, 3, 40, SAME):
            self.unchanged(desk, NotFound, {"number": value}, desk.advance, value)
            self.unchanged(desk, NotFound, {"number": value}, desk.rollback, value)

    def test_runs(self):
        desk = desk_of()
        self.assertEqual(desk.run((2, "advance"), (1, "advance"), (2, "advance")), (2, 2, 2))
        self.assertEqual((desk.history(), desk.moves_made), (("run",), 3))
        self.assertEqual(desk.undo(), "run")
        self.assertEqual((desk.state, desk.moves_made), (START, 0))

    def test_runs_that_lead_back_or_nowhere(self):
        desk = desk_of()
        self.assertEqual(desk.run(), START)
        self.assertEqual(desk.run((2, "advance")), (2, 1, 1))
        before = snapshot(desk)
        self.assertEqual(desk.run(), (2, 1, 1))
        self.assertEqual(desk.undo(), "run")
        self.assertEqual(desk_of(net=Pipeline.row(2, 2)).run((1, "advance"), (1, "rollback")), START)
        desk = desk_of(net=Pipeline.row(2, 2))
        desk.advance(2)
        desk.undo()
        self.assertEqual(desk.run((1, "advance"), (1, "rollback")), START)
        self.assertEqual((desk.history(), desk.moves_made), ((), 0))
        self.assertEqual(desk.redo(), "advance")
        self.assertEqual(before[2], (2, 1, 1))

    def test_runs_that_break_off(self):
        desk = desk_of()
        good = (2, "advance")
        self.unchanged(desk, Blocked, {"move": (2, "advance"), "channels": (1,), "at": 1}, desk.run, good, good)
        self.unchanged(desk, Blocked, {"move": (2, "advance"), "channels": (1,), "at": 1}, desk.run, good, good, None)
        for value in (*NEVER_MOVES, (3, "advance")):
            self.unchanged(desk, InvalidMove, {}, desk.run, good, value)
            self.unchanged(desk, InvalidMove, {}, desk.run, value, good)


class TestWays(DeskCase):
    """Point 59: go, enter and recover."""

    def test_go(self):
        desk = desk_of()
        self.assertEqual(desk.go((2, 2, 2)), (2, 2, 2))
        self.assertEqual((desk.state, desk.history(), desk.moves_made), ((2, 2, 2), ("go",), 3))
        self.unchanged(desk, Unreachable, {"objection": ("sink", 2)}, desk.go, START)
        self.assertEqual(desk.go((2, 2, 2)), (2, 2, 2))
        self.assertEqual((desk.history(), desk.moves_made), (("go",), 3))
        for state, position in NEVER_STATES:
            self.unchanged(desk, InvalidState, {"position": position}, desk.go, state)

    def test_enter(self):
        desk = desk_of()
        self.assertEqual(desk.enter(Box((0, 0, 1), (9, 9, 9))), (2, 1, 1))
        self.assertEqual((desk.history(), desk.moves_made), (("enter",), 1))
        self.assertEqual(desk.enter(Box.full(3)), (2, 1, 1))
        self.assertEqual((desk.history(), desk.moves_made), (("enter",), 1))
        self.assertEqual(desk.enter(Box.full(3).narrowed(2, low=2)), (2, 2, 2))
        self.assertEqual((desk.history(), desk.moves_made), (("enter", "enter"), 3))

    def test_enter_a_box_without_a_reached_state(self):
        for net, state, box in ((ROW, START, Box((0, 0, 3), (9, 9, 9))), (ROW, START, Box((5, 0, 0), (4, 9, 9))),
                                (ROW, (2, 2, 0), Box((0, 0, 1), (9, 9, 9))),
                                (Ring(1, 1, 1), (1, 0, 0), Box((2,) * 3, (9,) * 3))):
            desk = Desk(net, state)
            before = snapshot(desk)
            with self.assertRaises(NoState) as caught:
                desk.enter(box)
            self.assertIs(is_certificate(net, caught.exception.certificate, box, state), True)
            self.assertEqual(snapshot(desk), before)

    def test_enter_a_box_that_does_not_suit(self):
        desk = desk_of()
        for stages in (1, 2, 4, 40):
            self.unchanged(desk, InvalidBox, {"position": None}, desk.enter, Box.full(stages))

    def test_recover(self):
        desk = Desk(Pipeline.row(5, 5, 5), (5, 2, 4, 1))
        self.assertEqual(desk.recover(), (5, 4, 4, 1))
        self.assertEqual((desk.history(), desk.moves_made), (("recover",), 2))
        self.assertEqual(desk.recover(), (5, 4, 4, 1))
        self.assertEqual((desk.history(), desk.moves_made), (("recover",), 2))
        desk = Desk(Pipeline.row(1, 1, 1), (2, 0, 3, 0))
        self.unchanged(desk, Unrecoverable, {"conflict": (0, 2)}, desk.recover)

    def test_ways_of_2000_and_of_2001_moves(self):
        start, near, far = (999, 0, 0, 0), (999, 999, 999, 2), (999, 999, 999, 3)
        desk = Desk(WIDE, start)
        self.unchanged(desk, TooLarge, {"size": 2001, "most": 2000}, desk.go, far)
        self.assertEqual(self.quick(desk.go, near), near)
        self.assertEqual(desk.moves_made, 2000)
        desk = Desk(WIDE, start)
        self.unchanged(desk, TooLarge, {"size": 2001, "most": 2000}, desk.enter, Box.exactly(far))
        self.assertEqual(self.quick(desk.enter, Box.exactly(near)), near)
        self.assertEqual(desk.moves_made, 2000)
        net = Pipeline(7, (0, 1), (0, 2), (0, 3), (1, 4), (2, 5), (3, 6), capacity=999)
        desk = Desk(net, (999, 0, 0, 0, 999, 999, 3))
        self.unchanged(desk, TooLarge, {"size": 2001, "most": 2000}, desk.recover)
        desk = Desk(net, (999, 0, 0, 0, 999, 999, 2))
        self.assertEqual(self.quick(desk.recover), (999, 999, 999, 2, 999, 999, 2))
        self.assertEqual(desk.moves_made, 2000)

    def test_other_errors_come_before_too_large(self):
        desk = Desk(WIDE, (999, 0, 0, 0))
        self.unchanged(desk, Unreachable, {"objection": ("orphan", 2)}, desk.go, (999, 999, 998, 999))
        with self.assertRaises(NoState):
            desk.enter(Box.exactly((999, 999, 998, 999)))
        desk = Desk(Pipeline(7, (0, 1), (0, 2), (0, 3), (1, 4), (2, 5), (3, 6), capacity=998),
                    (999, 0, 0, 0, 999, 999, 3))
        self.unchanged(desk, Unrecoverable, {"conflict": (1, 4)}, desk.recover)

    def test_a_way_is_made_of_the_moves_of_the_plan(self):
        chance = random.Random(161)
        for _ in range(80):
            net, start, found = lively_case(chance, 4)
            target = chance.choice(sorted(found))
            desk = Desk(net, start)
            self.assertEqual(desk.go(target), run_moves(net, start, plan(net, start, target)))
            self.assertEqual(desk.moves_made, found[target])


class TestRetune(DeskCase):
    """Point 59."""

    def test_other_capacities(self):
        desk = desk_of()
        self.assertEqual(desk.retune(1, 5), Pipeline.row(2, 5))
        self.assertEqual((desk.net, desk.state, desk.history(), desk.moves_made),
                         (Pipeline.row(2, 5), START, ("retune",), 0))
        self.assertEqual(desk.retune(0, 999), Pipeline.row(999, 5))
        self.assertEqual(ROW, Pipeline.row(2, 1))
        self.assertEqual((desk.undo(), desk.net), ("retune", Pipeline.row(2, 5)))
        self.assertEqual((desk.undo(), desk.net), ("retune", ROW))
        self.assertEqual((desk.redo(), desk.net), ("retune", Pipeline.row(2, 5)))
        desk = Desk(Ring(1, 2, 3), (0, 0, 0))
        self.assertEqual(desk.retune(2, 9), Ring(1, 2, 9))

    def test_the_same_capacity(self):
        desk = desk_of()
        desk.advance(2)
        desk.undo()
        self.assertEqual(desk.retune(0, 2), ROW)
        self.assertEqual(desk.history(), ())
        self.assertEqual(desk.redo(), "advance")

    def test_moves_follow_the_present_net(self):
        desk = desk_of(state=(2, 2, 0))
        self.fails(Blocked, {"move": (2, "advance"), "channels": (1,), "at": 0}, desk.advance, 2)
        desk.retune(1, 2)
        self.assertEqual(desk.advance(2), (2, 2, 1))
        self.assertEqual((desk.undo(), desk.undo()), ("advance", "retune"))
        self.fails(Blocked, {"move": (2, "advance"), "channels": (1,), "at": 0}, desk.advance, 2)

    def test_errors(self):
        desk = desk_of()
        for value in (*NEVER_NUMBERS, 2, 3, 120, SAME):
            for capacity in (5, 0, None):
                self.unchanged(desk, NotFound, {"number": value}, desk.retune, value, capacity)
        for capacity in (0, 1000, -1, True, None, "5", 5.0, SAME):
            for channel in (0, 1):
                self.unchanged(desk, InvalidNet, {"reason": "capacity", "position": channel}, desk.retune, channel,
                               capacity)
            ring = Desk(Ring(1, 1, 1), (0, 0, 0))
            self.unchanged(ring, InvalidNet, {"reason": "capacity", "position": 2}, ring.retune, 2, capacity)


class TestHistory(DeskCase):
    """Points 60 and 61."""

    def test_undo_and_redo(self):
        desk = Desk(Pipeline.row(9, 9), (5, 3, 1))
        states = [desk.state]
        for call, args in (("advance", (1,)), ("run", ((2, "advance"), (2, "advance"))), ("rollback", (0,)),
                           ("go", ((4, 3, 3),))):
            getattr(desk, call)(*args)
            states.append(desk.state)
        self.assertEqual(desk.history(), ("advance", "run", "rollback", "go"))
        self.assertEqual(desk.moves_made, 5)
        counts = []
        for name in ("go", "rollback", "run", "advance"):
            self.assertEqual(desk.undo(), name)
            counts.append(desk.moves_made)
            self.assertEqual(desk.state, states[len(desk.history())])
        self.assertEqual(counts, [4, 3, 1, 0])
        self.unchanged(desk, NothingToUndo, {}, desk.undo)
        for name in ("advance", "run", "rollback", "go"):
            self.assertEqual(desk.redo(), name)
            self.assertEqual(desk.state, states[len(desk.history())])
        self.assertEqual((desk.moves_made, desk.history()), (5, ("advance", "run", "rollback", "go")))
        self.unchanged(desk, NothingToRedo, {}, desk.redo)

    def test_deeds_that_could_be_done_again_are_no_entries(self):
        desk = desk_of()
        desk.advance(2)
        desk.undo()
        self.assertEqual(desk.history(), ())
        self.unchanged(desk, NothingToUndo, {}, desk.undo)

    def test_a_new_deed_behind_an_undo(self):
        desk = desk_of()
        desk.advance(2)
        desk.rollback(0)
        desk.undo()
        desk.undo()
        desk.rollback(1)
        self.assertEqual((desk.history(), desk.moves_made), (("rollback",), 1))
        self.unchanged(desk, NothingToRedo, {}, desk.redo)

    def test_deeds_that_are_not_entered_drop_none(self):
        desk = desk_of(state=(2, 2, 1))
        desk.advance(2)
        desk.undo()
        for call, args in ((desk.run, ()), (desk.go, ((2, 2, 1),)), (desk.enter, (Box.full(3),)), (desk.recover, ()),
                           (desk.retune, (1, 1))):
            call(*args)
        for call, args in ((desk.advance, (0,)), (desk.rollback, (9,)), (desk.run, (None,)), (desk.go, ((9, 9, 9),)),
                           (desk.enter, (Box.exactly((9, 9, 9)),)), (desk.retune, (1, 0)), (desk.undo, ()),
                           (desk.watch, ("", None)), (desk.status, ("x",)), (desk.set_limit, (0,)),
                           (desk.attempt, (None,))):
            with self.assertRaises(WithinCallError):
                call(*args)
        desk.watch("a", (2, 2, 1))
        desk.attempt((2, "advance"))
        desk.set_limit(1)
        self.assertEqual(desk.history(), ())
        self.assertEqual(desk.redo(), "advance")

    def test_undo_works_whatever_moves_are_allowed(self):
        desk = desk_of()
        desk.advance(1)
        self.fails(Blocked, {"move": (1, "rollback"), "channels": (1,), "at": 0}, desk.rollback, 1)
        self.assertEqual((desk.undo(), desk.state), ("advance", START))
        desk.retune(0, 1)
        desk.undo()
        self.assertEqual((desk.redo(), desk.net), ("retune", Pipeline.row(1, 1)))

    def test_the_limit_drops_the_oldest_entries(self):
        desk = Desk(Pipeline.row(9, 9), (9, 5, 0), limit=3)
        for _ in range(5):
            desk.advance(2)
        desk.rollback(0)
        self.assertEqual((desk.history(), desk.moves_made), (("advance", "advance", "rollback"), 6))
        self.assertEqual([desk.undo(), desk.undo(), desk.undo()], ["rollback", "advance", "advance"])
        self.assertEqual((desk.state, desk.moves_made), ((9, 5, 3), 3))
        self.unchanged(desk, NothingToUndo, {}, desk.undo)

    def test_redo_drops_the_oldest_entries_too(self):
        desk = Desk(Pipeline.row(9, 9), (9, 5, 0))
        for stage in (2, 1, 2, 1):
            desk.advance(stage)
        desk.rollback(0)
        for _ in range(3):
            desk.undo()
        self.assertEqual((desk.history(), desk.set_limit(2)), (("advance", "advance"), 0))
        self.assertEqual([desk.redo(), desk.redo(), desk.redo()], ["advance", "advance", "rollback"])
        self.assertEqual((desk.history(), desk.moves_made, desk.limit), (("advance", "rollback"), 5, 2))
        self.assertEqual((desk.undo(), desk.undo(), desk.state, desk.moves_made), ("rollback", "advance", (9, 6, 2), 3))
        self.unchanged(desk, NothingToUndo, {}, desk.undo)

    def test_dropped_entries_stay_counted(self):
        desk = Desk(Pipeline.row(9, 9), (9, 5, 0), limit=1)
        desk.run((2, "advance"), (2, "advance"))
        desk.run((1, "advance"), (1, "advance"), (1, "advance"))
        self.assertEqual((desk.moves_made, desk.history()), (5, ("run",)))
        desk.undo()
        self.assertEqual(desk.moves_made, 2)


class TestLimits(DeskCase):
    """Point 62."""

    def filled(self, many=6):
        desk = Desk(Pipeline.row(9, 9), (9, 7, 0))
        for _ in range(many):
            desk.advance(2)
        return desk

    def test_assigned(self):
        desk = self.filled()
        desk.limit = 2
        self.assertEqual((desk.limit, desk.history(), desk.moves_made), (2, ("advance",) * 2, 6))
        desk.limit = 1000
        self.assertEqual((desk.limit, desk.history()), (1000, ("advance",) * 2))
        desk.advance(2)
        self.assertEqual(len(desk.history()), 3)

    def test_set(self):
        desk = self.filled()
        self.assertEqual([desk.set_limit(value) for value in (1000, 6, 4, 4, 1, 5)], [0, 0, 2, 0, 3, 0])
        self.assertEqual((desk.limit, desk.history(), desk.state), (5, ("advance",), (9, 7, 6)))
        self.assertEqual((desk.undo(), desk.state), ("advance", (9, 7, 5)))

    def test_bad_ones(self):
        desk = self.filled()
        for value in (*NEVER_NUMBERS, 0, 1001, 100.0, "100", (100,), SAME):
            self.unchanged(desk, InvalidLimit, {"value": value}, desk.set_limit, value)
            self.unchanged(desk, InvalidLimit, {"value": value}, setattr, desk, "limit", value)

    def test_deeds_that_could_be_done_again_are_not_dropped(self):
        desk = self.filled()
        for _ in range(4):
            desk.undo()
        self.assertEqual(desk.set_limit(1), 1)
        self.assertEqual([desk.redo() for _ in range(4)], ["advance"] * 4)
        self.assertEqual((desk.history(), desk.state, desk.limit), (("advance",), (9, 7, 6), 1))

    def test_undo_and_redo_leave_the_limit_alone(self):
        desk = self.filled()
        desk.limit = 50
        desk.undo()
        self.assertEqual(desk.limit, 50)
        desk.redo()
        self.assertEqual(desk.limit, 50)


class TestAttempts(DeskCase):
    """Point 63."""

    MOVES = ((2, "advance"), (0, "rollback"))

    def test_without_keep(self):
        desk = desk_of()
        desk.advance(2)
        desk.rollback(0)
        desk.undo()
        desk.watch("a", (2, 2, 2))
        before = snapshot(desk)
        for named in ({}, {"keep": False}):
            found = desk.attempt((0, "rollback"), **named)
            self.assertEqual(found, ((1, 1, 1), channel_table(ROW, (1, 1, 1))))
            self.assertEqual(snapshot(desk), before)
        self.assertEqual(desk.attempt(), ((2, 1, 1), channel_table(ROW, (2, 1, 1))))
        self.assertEqual(snapshot(desk), before)

    def test_with_keep(self):
        desk, other = desk_of(), desk_of()
        self.assertEqual(desk.attempt(*self.MOVES, keep=True), ((1, 1, 1), channel_table(ROW, (1, 1, 1))))
        other.run(*self.MOVES)
        self.assertEqual(snapshot(desk), snapshot(other))
        self.assertEqual((desk.history(), desk.moves_made), (("run",), 2))
        self.assertEqual(desk.attempt(keep=True), ((1, 1, 1), channel_table(ROW, (1, 1, 1))))
        self.assertEqual(snapshot(desk), snapshot(other))

    def test_with_keep_and_without_any_change(self):
        desk = desk_of(net=Pipeline.row(2, 2))
        desk.advance(2)
        desk.undo()
        before = snapshot(desk)
        self.assertEqual(desk.attempt((1, "advance"), (1, "rollback"), keep=True)[0], START)
        self.assertEqual(snapshot(desk), before)

    def test_moves_that_cannot_be_made(self):
        desk = desk_of()
        desk.advance(2)
        desk.undo()
        good = (2, "advance")
        for keep in (True, False):
            self.unchanged(desk, Blocked, {"move": good, "channels": (1,), "at": 1}, desk.attempt, good, good, None,
                           keep=keep)
            for value in (*NEVER_MOVES, (3, "advance")):
                self.unchanged(desk, InvalidMove, {}, desk.attempt, good, value, good, keep=keep)

    def test_the_table_is_that_of_the_present_net(self):
        desk = desk_of()
        desk.retune(1, 7)
        self.assertEqual(desk.attempt((2, "advance"))[1], channel_table(Pipeline.row(2, 7), (2, 1, 1)))
        self.assertEqual(desk.table(), channel_table(Pipeline.row(2, 7), START))


class TestWatched(DeskCase):
    """Points 64 and 66."""

    def test_here_ahead_and_lost(self):
        desk = desk_of()
        self.assertEqual([desk.watch("here", START), desk.watch("ahead", (2, 2, 2)), desk.watch("lost", (3, 1, 0))],
                         ["here", "ahead", "lost"])
        self.assertEqual(desk.statuses(), (("ahead", "ahead"), ("here", "here"), ("lost", "lost")))
        self.assertEqual([desk.status(name) for name in ("here", "ahead", "lost")], ["here", "ahead", "lost"])
        desk.go((2, 2, 2))
        self.assertEqual(desk.statuses(), (("ahead", "here"), ("here", "lost"), ("lost", "lost")))
        desk.undo()
        self.assertEqual(desk.statuses(), (("ahead", "ahead"), ("here", "here"), ("lost", "lost")))
        desk.redo()
        self.assertEqual(desk.status("here"), "lost")

    def test_a_name_that_is_used_again(self):
        desk = desk_of()
        desk.watch("a", START)
        self.assertEqual(desk.watch("a", (2, 2, 2)), "ahead")
        self.assertEqual(desk.statuses(), (("a", "ahead"),))
        self.assertEqual(desk.unwatch("a"), (2, 2, 2))
        self.assertEqual(desk.statuses(), ())

    def test_good_names(self):
        desk = desk_of()
        for name in ("a", "z", "abcdefghijkl", "mnopqrstuvwx", "zz"):
            self.assertEqual(desk.watch(name, START), "here")
            self.assertEqual(desk.status(name), "here")
        self.assertEqual([name for name, _ in desk.statuses()], ["a", "abcdefghijkl", "mnopqrstuvwx", "z", "zz"])

    def test_bad_names(self):
        desk = desk_of()
        desk.watch("a", START)
        for name in NEVER_NAMES:
            for target in (START, None, (9, 9, 1000)):
                self.unchanged(desk, InvalidName, {"name": name}, desk.watch, name, target)
        for state, position in NEVER_STATES:
            self.unchanged(desk, InvalidState, {"position": position}, desk.watch, "a", state)
            self.unchanged(desk, InvalidState, {"position": position}, desk.watch, "b", state)

    def test_names_that_are_not_known(self):
        desk = desk_of()
        desk.watch("a", START)
        for name in ("b", "aa", "", "A", "a ", "a" * 13, "\u00e9", "here"):
            for call in (desk.status, desk.unwatch, desk.advice):
                self.unchanged(desk, UnknownName, {"name": name}, call, name)
        desk.unwatch("a")
        for call in (desk.status, desk.unwatch, desk.advice):
            self.unchanged(desk, UnknownName, {"name": "a"}, call, "a")

    def test_advice(self):
        desk = desk_of()
        desk.watch("a", (2, 2, 2))
        desk.watch("b", (2, 1, 0))
        desk.watch("c", (1, 1, 1))
        desk.watch("d", (3, 0, 0))
        self.assertEqual(desk.advice("a"), ((2, "advance"),))
        self.assertEqual(desk.advice("b"), ())
        self.assertEqual(desk.advice("c"), ((0, "rollback"), (2, "advance")))
        self.unchanged(desk, Unreachable, {"objection": objections(ROW, START, (3, 0, 0))[0]}, desk.advice, "d")

    def test_statuses_follow_retuned_channels(self):
        desk = desk_of(state=(2, 2, 0))
        self.assertEqual(desk.watch("full", (2, 2, 2)), "lost")
        desk.retune(1, 2)
        self.assertEqual(desk.status("full"), "ahead")
        desk.undo()
        self.assertEqual(desk.status("full"), "lost")

    def test_a_lost_target_stays_lost(self):
        chance = random.Random(162)
        lost = 0
        for _ in range(60):
            net, start, found = lively_case(chance, 4)
            desk = Desk(net, start)
            for name in "abcdef":
                desk.watch(name, chance.choice(sorted(found)))
            before = dict(desk.statuses())
            for _ in range(8):
                desk.go(chance.choice(sorted(search(net, desk.state))))
                after = dict(desk.statuses())
                for name in before:
                    lost += before[name] == "lost"
                    self.assertTrue(before[name] != "lost" or after[name] == "lost")
                before = after
        self.assertGreater(lost, 100)

    def test_targets_do_not_belong_to_the_history(self):
        desk = desk_of()
        desk.advance(2)
        desk.watch("a", (2, 2, 2))
        desk.undo()
        self.assertEqual(desk.status("a"), "ahead")
        desk.unwatch("a")
        desk.redo()
        self.assertEqual(desk.statuses(), ())

    def test_contains(self):
        desk = desk_of()
        self.assertIs(START in desk, True)
        self.assertIs((2, 2, 2) in desk, True)
        self.assertIs((3, 1, 0) in desk, False)
        desk.go((2, 2, 2))
        self.assertIs(START in desk, False)
        for state, position in NEVER_STATES:
            self.unchanged(desk, InvalidState, {"position": position}, lambda: state in desk)


class TestTwins(DeskCase):
    """Point 65."""

    def prepared(self):
        desk = Desk(Pipeline.row(9, 9), (9, 5, 0), limit=7)
        for stage in (2, 1, 2):
            desk.advance(stage)
        desk.retune(0, 8)
        desk.undo()
        desk.undo()
        desk.watch("a", (9, 9, 9))
        desk.watch("b", (9, 6, 1))
        return desk

    def test_the_same_in_everything(self):
        desk = self.prepared()
        twin = desk.twin()
        self.assertIsInstance(twin, Desk)
        self.assertEqual(snapshot(twin), snapshot(desk))
        self.assertEqual((twin.limit, twin.history(), twin.moves_made), (7, ("advance", "advance"), 2))
        self.assertEqual((twin.redo(), twin.redo()), ("advance", "retune"))

    def test_they_do_not_influence_each_other(self):
        changes = (("advance", (2,)), ("rollback", (0,)), ("run", ((1, "advance"), (2, "advance"))),
                   ("go", ((9, 9, 9),)),
                   ("enter", (Box.exactly((9, 7, 7)),)), ("retune", (1, 5)), ("undo", ()), ("redo", ()),
                   ("set_limit", (1,)),
                   ("watch", ("c", (1, 1, 1))), ("watch", ("a", (1, 1, 1))), ("unwatch", ("b",)))
        for call, args in changes:
            desk = self.prepared()
            twin = desk.twin()
            before = snapshot(desk)
            getattr(twin, call)(*args)
            self.assertEqual(snapshot(desk), before)
            self.assertNotEqual(snapshot(twin), before)
            twin = desk.twin()
            getattr(desk, call)(*args)
            self.assertEqual(snapshot(twin), before)
        desk = self.prepared()
        twin = desk.twin()
        before = snapshot(desk)
        twin.limit = 1
        self.assertEqual(snapshot(desk), before)

    def test_two_desks_of_one_net(self):
        net, state = Pipeline.row(2, 1), (2, 1, 0)
        first, second = Desk(net, state), Desk(net, state)
        before = snapshot(second)
        first.advance(2)
        first.retune(0, 9)
        first.watch("a", state)
        first.limit = 3
        self.assertEqual(snapshot(second), before)
        self.assertEqual((net, state), (ROW, START))


class Model:
    """A desk by the words of points 59 to 62: every entry keeps what was before and behind it."""

    def __init__(self, net, state, limit):
        self.net, self.state, self.limit = net, state, limit
        self.entries, self.undone, self.count = [], [], 0

    def deed(self, name, net, state, many):
        if (net, state) != (self.net, self.state):
            self.entries.append((name, (self.net, self.state), (net, state), many))
            self.undone = []
            self.net, self.state = net, state
            self.count += many
            self.cut()

    def cut(self):
        while len(self.entries) > self.limit:
            self.entries.pop(0)

    def undo(self):
        entry = self.entries.pop()
        self.undone.append(entry)
        self.net, self.state = entry[1]
        self.count -= entry[3]
        return entry[0]

    def redo(self):
        entry = self.undone.pop()
        self.entries.append(entry)
        self.net, self.state = entry[2]
        self.count += entry[3]
        self.cut()
        return entry[0]


class TestManyDeeds(DeskCase):
    """Long rows of deeds, beside a desk by the words of the document."""

    def one_deed(self, chance, desk, model):
        net, state = model.net, model.state
        allowed = [move for move in moves_of(net) if may_be_made(net, state, move)]
        reached = sorted(search(net, state))
        target = chance.choice(reached)
        kind = chance.choice(("move", "move", "run", "go", "enter", "recover", "retune", "undo", "undo", "redo",
                              "redo", "limit",
                              "attempt", "blocked"))
        if kind == "move" and allowed:
            move = chance.choice(allowed)
            self.assertEqual(getattr(desk, move[1])(move[0]), behind(state, move))
            model.deed(move[1], net, behind(state, move), 1)
        elif kind in ("run", "attempt"):
            moves = plan(net, state, target) + plan(net, target, chance.choice(sorted(search(net, target))))
            after = run_moves(net, state, moves)
            if kind == "run":
                self.assertEqual(desk.run(*moves), after)
            else:
                keep = chance.random() < 0.5
                self.assertEqual(desk.attempt(*moves, keep=keep)[0], after)
                kind = "run" if keep else "attempt"
            if kind == "run":
                model.deed("run", net, after, len(moves))
        elif kind == "go":
            self.assertEqual(desk.go(target), target)
            model.deed("go", net, target, distance(net, state, target))
        elif kind == "enter":
            box = Box(tuple([max(0, counter - chance.randint(0, 1)) for counter in target]), (9,) * net.stages)
            near = nearest(net, box, state)
            self.assertEqual(desk.enter(box), near)
            model.deed("enter", net, near, distance(net, state, near))
        elif kind == "recover":
            try:
                line = cheapest(net, state)
            except Unrecoverable:
                with self.assertRaises(Unrecoverable):
                    desk.recover()
            else:
                self.assertEqual(desk.recover(), line)
                model.deed("recover", net, line, distance(net, state, line))
        elif kind == "retune" and net.channels:
            capacities = [capacity for _, _, capacity in net.channels]
            channel = chance.randrange(len(capacities))
            capacities[channel] = chance.randint(1, 4)
            other = net.resized(*capacities)
            self.assertEqual(desk.retune(channel, capacities[channel]), other)
            model.deed("retune", other, state, 0)
        elif kind in ("undo", "redo"):
            if model.entries if kind == "undo" else model.undone:
                self.assertEqual(getattr(desk, kind)(), getattr(model, kind)())
            else:
                self.fails(NothingToUndo if kind == "undo" else NothingToRedo, {}, getattr(desk, kind))
        elif kind == "limit" and chance.random() < 0.3:
            many = len(model.entries)
            model.limit = chance.randint(1, 9)
            model.cut()
            self.assertEqual(desk.set_limit(model.limit), many - len(model.entries))
        elif kind == "blocked":
            for move in moves_of(net):
                if move not in allowed:
                    with self.assertRaises(Blocked):
                        getattr(desk, move[1])(move[0])

    def test_many_deeds(self):
        chance = random.Random(163)
        names = []
        for _ in range(60):
            net, start, _ = lively_case(chance, 4)
            limit = chance.randint(1, 12)
            desk, model = Desk(net, start, limit=limit), Model(net, start, limit)
            for _ in range(40):
                self.one_deed(chance, desk, model)
                self.assertEqual((desk.net, desk.state, desk.moves_made, desk.limit), (
                    model.net, model.state, model.count, model.limit))
                self.assertEqual(desk.history(), tuple([entry[0] for entry in model.entries]))
            names += desk.history()
        for name in ("advance", "rollback", "run", "go", "enter", "recover", "retune"):
            self.assertIn(name, names)


class TestWork(DeskCase):

    def test_a_large_net(self):
        net = long_net()
        start = (999,) + (949,) * 39
        desk = Desk(net, start, limit=1000)
        self.assertEqual(self.quick(desk.go, (999,) * 40), (999,) * 40)
        self.assertEqual(desk.moves_made, 1950)
        desk.undo()
        for k in range(30):
            desk.watch("abcdefghijklmnopqrstuvwxyzabcd"[k:k + 3], tuple([999] + [949 + k] * 39))
        self.quick(desk.statuses)
        self.quick(desk.advice, "abc")
        self.quick(desk.enter, Box((950,) * 40, (999,) * 40))
        self.assertEqual(self.quick(desk.retune, 7, 3).channels[7][2], 3)
        self.assertIs(self.quick(lambda: start in desk), False)
        self.quick(desk.recover)
        self.quick(desk.table)
        self.quick(desk.twin)

    def test_a_history_of_1000_entries(self):
        desk = Desk(Pipeline.row(999), (999, 0), limit=1000)

        def fill():
            for _ in range(999):
                desk.advance(1)
            for _ in range(300):
                desk.undo()
            for _ in range(300):
                desk.redo()

        self.quick(fill)
        self.assertEqual((len(desk.history()), desk.moves_made, desk.state), (999, 999, (999, 999)))
        self.assertEqual(desk.retune(0, 5), Pipeline.row(5))
        self.assertEqual(len(desk.history()), 1000)
        desk.retune(0, 6)
        self.assertEqual((len(desk.history()), desk.history()[-2:]), (1000, ("retune", "retune")))


class TestWholeProgram(DeskCase):
    """Point 2, for the desk."""

    def test_rows_of_results_are_tuples(self):
        desk = desk_of()
        desk.watch("a", (2, 2, 2))
        for row in (desk.state, desk.history(), desk.statuses(), desk.statuses()[0], desk.advice("a"), desk.attempt(),
                    desk.advance(2), desk.rollback(0), desk.run(), desk.go(desk.state), desk.unwatch("a")):
            self.assertIs(type(row), tuple)

    def test_first_moves_and_advice_are_the_same(self):
        chance = random.Random(164)
        for _ in range(60):
            net, start, found = lively_case(chance, 4)
            desk = Desk(net, start)
            target = chance.choice(sorted(found))
            desk.watch("a", target)
            self.assertEqual(desk.advice("a"), first_moves(net, start, target))
