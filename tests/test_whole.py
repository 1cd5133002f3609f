"""What the document promises over the whole program: that its parts agree with each other."""

import random

from tests.common import Case, lively_case, random_nets, random_state, rough_case
from withincall import boxes, errors
from withincall.boxes import Box
from withincall.capacity import needed, widened
from withincall.classes import (
    class_ceiling, class_floor, class_size, exits, is_dead, is_settled, is_two_way, members, mutual)
from withincall.desk import Desk
from withincall.errors import (
    Blocked, NothingToRedo, NothingToUndo, NoState, Unreachable, Unrecoverable, WithinCallError)
from withincall.evidence import Evidence
from withincall.extents import extent, gap_extent, live_moves, soonest
from withincall.lattice import greatest, is_certificate, least, nearest, why_none
from withincall.logs import audit, repairs
from withincall.moves import allowed_moves, blockers, can_move, make, mirror_move, opposite, run_moves, trace
from withincall.nets import Pipeline
from withincall.order import MoveOrder
from withincall.reach import (
    distance, first_moves, is_plan, objections, plan, reaches, safe_moves)
from withincall.recovery import (
    cheapest, conflicts, cost_certificate, is_recoverable, replay_line, rollback_line, shown_cost)
from withincall.rows import Census, count_classes, count_dead, count_pairs, nearest_dead
from withincall.sightings import first_break, longest_story, story_cost
from withincall.states import conditions, is_clean, mirror_state
from withincall.texts import channel_table, read_moves, read_net, read_state, write_moves, write_net, write_state
from withincall.twins import alike, parting


def cases(seed, many, most=4):
    """Small nets with lively starts, and all states that are reached."""
    chance = random.Random(seed)
    for _ in range(many):
        net, start, found = lively_case(chance, most)
        yield chance, net, start, sorted(found)


class TestMirrors(Case):

    def test_moves_and_distances(self):
        for chance, net, start, reached in cases(171, 80):
            other, mirror = net.mirrored(), mirror_state(net, start)
            turned = [mirror_move(net, move) for move in allowed_moves(net, start)]
            self.assertEqual(allowed_moves(other, mirror), tuple(sorted(turned)))
            target = chance.choice(reached)
            self.assertEqual(distance(other, mirror, mirror_state(net, target)), distance(net, start, target))
            moves = tuple([mirror_move(net, move) for move in plan(net, start, target)])
            self.assertIs(is_plan(other, mirror, mirror_state(net, target), moves), True)
            turned = [mirror_move(net, move) for move in first_moves(net, start, target)]
            self.assertEqual(first_moves(other, mirror, mirror_state(net, target)), tuple(sorted(turned)))
            turned = [mirror_move(net, move) for move in live_moves(net, start)]
            self.assertEqual(live_moves(other, mirror), tuple(sorted(turned)))

    def test_extents_and_windows(self):
        for chance, net, start, reached in cases(172, 80):
            other, mirror, last = net.mirrored(), mirror_state(net, start), net.stages - 1
            for stage in range(net.stages):
                low, high = extent(net, start, stage)
                self.assertEqual(extent(other, mirror, last - stage), (999 - high, 999 - low))
                low, high = gap_extent(net, start, stage, 0)
                self.assertEqual(gap_extent(other, mirror, last - stage, last), (-high, -low))
            state = chance.choice(reached)
            box = Box(state, tuple([counter + 1 for counter in state]))
            lows = tuple([999 - high for high in reversed(box.highs)])
            turned = Box(lows, tuple([999 - low for low in reversed(box.lows)]))
            self.assertEqual(greatest(other, turned, mirror), mirror_state(net, least(net, box, start)))
            self.assertEqual(nearest(other, turned, mirror), mirror_state(net, nearest(net, box, start)))

    def test_orders_costs_and_evidence(self):
        for chance, net, start, reached in cases(173, 60):
            other, mirror = net.mirrored(), mirror_state(net, start)
            target = chance.choice(reached)
            order = MoveOrder(net, start, target)
            self.assertEqual(MoveOrder(other, mirror, mirror_state(net, target)).depth, order.depth)
            self.assertIs(is_recoverable(other, mirror), is_recoverable(net, start))
            self.assertEqual(class_size(other, mirror), class_size(net, start))
            seen, turned = Evidence(net), Evidence(other)
            for _ in range(4):
                state = chance.choice(reached)
                for move in allowed_moves(net, state):
                    seen.note_move(state, move, allowed=True)
                    turned.note_move(mirror_state(net, state), mirror_move(net, move), allowed=True)
            last = net.stages - 1
            ends = [(last - b, last - a) for a, b, _ in net.channels]
            for channel, (a, b, _) in enumerate(other.channels):
                self.assertEqual(turned.span(channel), seen.span(ends.index((a, b))))


class TestTexts(Case):

    def test_everything_written_is_read_again(self):
        for chance, net, start, reached in cases(174, 80):
            self.assertEqual(read_net(write_net(net)), net)
            self.assertEqual(read_net(write_net(net.mirrored())).mirrored(), net)
            target = chance.choice(reached)
            self.assertEqual(read_state(net, write_state(net, target)), target)
            moves = plan(net, start, target)
            self.assertEqual(read_moves(net, write_moves(net, moves)), moves)
            desk = Desk(read_net(write_net(net)), read_state(net, write_state(net, start)))
            self.assertEqual(desk.run(*read_moves(net, write_moves(net, moves))), target)
            self.assertEqual(desk.table(), channel_table(net, target))
            self.assertEqual(desk.attempt(), (target, channel_table(net, target)))
            for line, condition in zip(desk.table().split("\n")[1:], conditions(net, target)):
                self.assertTrue(line.endswith("  " + condition))

    def test_all_nets(self):
        for net in random_nets():
            self.assertEqual(read_net(write_net(net)), net)


class TestRunsOfADesk(Case):

    def deeds(self, chance, net, start):
        """A row of single moves on a desk, some of them refused: its log, and the states along it."""
        desk, log, states = Desk(net, start, limit=1000), [], [start]
        for _ in range(12):
            move = (chance.randrange(net.stages), chance.choice(("advance", "rollback")))
            if chance.random() < 0.7 and allowed_moves(net, desk.state):
                move = chance.choice(allowed_moves(net, desk.state))
            try:
                states.append(getattr(desk, move[1])(move[0]))
                log.append((*move, "done"))
            except Blocked as error:
                self.assertEqual((error.move, error.channels, error.at), (move, blockers(net, desk.state, move), 0))
                log.append((*move, "refused"))
        return desk, tuple(log), states

    def test_logs_sightings_and_evidence(self):
        for chance, net, start, _ in cases(175, 100):
            desk, log, states = self.deeds(chance, net, start)
            self.assertIsNone(audit(net, start, log))
            self.assertEqual(desk.moves_made, len(states) - 1)
            moves = tuple([(stage, kind) for stage, kind, word in log if word == "done"])
            self.assertEqual(list(trace(net, start, moves)), states)
            self.assertEqual(run_moves(net, start, moves), desk.state)
            self.assertIsNone(first_break(net, *states))
            self.assertEqual(longest_story(net, *states), tuple(range(len(states))))
            self.assertEqual(story_cost(net, *states), len(moves))
            seen = Evidence(net)
            self.assertEqual(seen.note_log(start, log), desk.state)
            self.assertIs(seen.fits(*[capacity for _, _, capacity in net.channels]), True)
            for position, correction in repairs(net, start, log):
                self.assertIn((log[position][2], correction), (("refused", "strike"), ("done", "strike")))

    def test_undo_and_redo_along_a_run(self):
        for chance, net, start, _ in cases(176, 40):
            desk, _, states = self.deeds(chance, net, start)
            for state in reversed(states[:-1]):
                desk.undo()
                self.assertEqual(desk.state, state)
            self.fails(NothingToUndo, {}, desk.undo)
            self.assertEqual(desk.moves_made, 0)
            for state in states[1:]:
                desk.redo()
                self.assertEqual(desk.state, state)
            self.fails(NothingToRedo, {}, desk.redo)

    def test_statuses_and_reach(self):
        for chance, net, start, reached in cases(177, 60):
            desk = Desk(net, start)
            for target in (*chance.sample(reached, min(5, len(reached))), random_state(chance, net, 4)):
                status = desk.watch("target", target)
                self.assertEqual(status,
                                 "here" if target == start else "ahead" if reaches(net, start, target) else "lost")
                self.assertIs(target in desk, status != "lost")
                if status == "lost":
                    self.fails(Unreachable, {"objection": objections(net, start, target)[0]}, desk.advice, "target")
                else:
                    self.assertEqual(desk.advice("target"), first_moves(net, start, target))
                    self.assertTrue({*desk.advice("target")} <= {*safe_moves(net, start, target)})
                    self.assertEqual(desk.twin().go(target), target)


class TestWindowsAndRecoveries(Case):

    def test_clean_states_of_the_full_box(self):
        met = {True: 0, False: 0}
        for chance, net, start, reached in cases(178, 120):
            if chance.random() < 0.5:
                start = random_state(chance, net, 4)
            box = Box.full(net.stages)
            certificate = why_none(net, box, start, clean=True)
            self.assertIs(is_recoverable(net, start), certificate is None)
            met[certificate is None] += 1
            if certificate is None:
                line = cheapest(net, start)
                self.assertTrue(all([a <= b <= c for a, b, c in zip(
                    least(net, box, start, clean=True), line, greatest(net, box, start, clean=True))]))
                self.assertEqual(shown_cost(net, start, cost_certificate(net, start)), distance(net, start, line))
                desk = Desk(net, start)
                self.assertEqual(desk.recover(), line)
                self.assertEqual(Desk(net, start).enter(Box.exactly(line)), line)
            else:
                self.assertIs(is_certificate(net, certificate, box, start, clean=True), True)
                with self.assertRaises(Unrecoverable):
                    Desk(net, start).recover()
        self.assertGreater(min(met.values()), 15)

    def test_lines(self):
        for chance, net, start, _ in cases(179, 100):
            for call, chosen in ((rollback_line, greatest), (replay_line, least)):
                lows = start if chosen is least else (0,) * net.stages
                highs = start if chosen is greatest else (999,) * net.stages
                box = Box(lows, highs)
                self.assertIs(conflicts(net, start) == (), is_clean(net, start))
                try:
                    line = call(net, start)
                except Unreachable:
                    continue
                self.assertEqual(chosen(net, box, clean=True), line)
                self.assertIn(line, box)

    def test_entered_boxes(self):
        for chance, net, start, reached in cases(180, 100):
            target = random_state(chance, net, 4)
            box = Box.exactly(target)
            desk = Desk(net, start)
            if target in reached:
                self.assertEqual(desk.enter(box), target)
                self.assertEqual(desk.moves_made, distance(net, start, target))
            else:
                with self.assertRaises(NoState) as caught:
                    desk.enter(box)
                self.assertIs(is_certificate(net, caught.exception.certificate, box, start), True)
                self.assertEqual((desk.state, desk.history()), (start, ()))

    def test_soonest_states(self):
        for chance, net, start, _ in cases(181, 60):
            for move in live_moves(net, start):
                size, state = soonest(net, start, move)
                desk = Desk(net, start)
                desk.go(state)
                self.assertEqual(desk.moves_made, size)
                self.assertEqual(getattr(desk, move[1])(move[0]), make(net, state, move))
                for stage in range(net.stages):
                    low, high = extent(net, start, stage)
                    self.assertTrue(low <= desk.state[stage] <= high)


class TestEvidenceAndNets(Case):

    def test_what_parts_two_nets_tells_of_the_capacities(self):
        parted = 0
        for chance, net, start, _ in cases(182, 120):
            own = [capacity for _, _, capacity in net.channels]
            others = [max(1, capacity + chance.choice((-1, 0, 1))) for capacity in own]
            other = net.resized(*others)
            found = parting(net, other, start)
            self.assertIs(alike(net, other, start), found is None)
            if found is not None:
                parted += 1
                size, state, move = found
                self.assertEqual(distance(net, start, state), size)
                self.assertEqual(distance(other, start, state), size)
                seen = Evidence(net)
                seen.note_move(state, move, allowed=can_move(net, state, move))
                self.assertIs(seen.fits(*own), True)
                self.assertIs(seen.fits(*others), False)
                self.assertNotEqual(seen.foretell(state, move), "unknown")
        self.assertGreater(parted, 30)

    def test_needed_capacities_are_the_least_that_fit(self):
        for chance, net, start, reached in cases(183, 100):
            pairs = [(start, chance.choice(reached)) for _ in range(3)]
            seen = Evidence(net)
            for pair in pairs:
                seen.note_reach(*pair, reached=True)
            spans = [seen.span(channel) for channel in range(len(net.channels))]
            self.assertEqual(needed(net, *pairs), tuple([low for low, _ in spans]))
            self.assertIs(seen.fits(*needed(net, *pairs)), True)
            self.assertEqual(widened(net, *pairs), net)
            for low, high in spans:
                self.assertEqual(high, 999)

    def test_known_capacities_foretell_everything(self):
        for chance, net, start, reached in cases(184, 40):
            seen = Evidence(net)
            for channel, (a, b, capacity) in enumerate(net.channels):
                state = tuple([capacity if stage == a else 0 for stage in range(net.stages)])
                target = (*state[:a], capacity - 1, *state[a + 1:])
                # Other channels from the stage may be narrower, and some targets are orphans.
                seen.note_reach(state, target, reached=reaches(net, state, target))
                more = tuple([capacity + 1 if stage == a else 0 for stage in range(net.stages)])
                seen.note_reach(more, state, reached=reaches(net, more, state))
            for state in reached[:5]:
                for stage in range(net.stages):
                    for kind in ("advance", "rollback"):
                        answer = seen.foretell(state, (stage, kind))
                        self.assertIn(answer, ("unknown", "yes" if can_move(net, state, (stage, kind)) else "no"))


class TestRowsAndClasses(Case):

    def test_counts_and_classes(self):
        for levels, capacities in ((3, (2, 1)), (4, (1, 3)), (3, (1, 1, 2)), (5, (2,))):
            net = Pipeline.row(*capacities)
            states = [()]
            for _ in range(net.stages):
                states = [(*state, counter) for state in states for counter in range(levels)]
            self.assertEqual(count_dead(levels, *capacities), len([state for state in states if is_dead(net, state)]))
            self.assertEqual(count_pairs(levels, *capacities), sum([Census(net, state).many for state in states]))
            floors = {class_floor(net, state) for state in states}
            self.assertEqual(count_classes(levels, *capacities), len(floors))
            self.assertEqual(sum([class_size(net, floor) for floor in floors]), len(states))
            for state in states:
                size, dead = nearest_dead(net, state)
                self.assertEqual(distance(net, state, dead), size)
                self.assertIs(is_settled(net, dead), True)
                census = Census(net, state)
                for member in members(net, state):
                    self.assertEqual(Census(net, member).many, census.many)
                    self.assertEqual(census.state_at(census.rank(member)), member)

    def test_classes_and_moves(self):
        for chance, net, start, reached in cases(185, 80):
            low, high = class_floor(net, start), class_ceiling(net, start)
            box = Box(low, high)
            for member in members(net, start):
                self.assertIn(member, box)
                self.assertIs(mutual(net, start, member), True)
                self.assertEqual(story_cost(net, start, member, start), 2 * distance(net, start, member))
                for move in allowed_moves(net, member):
                    after = make(net, member, move)
                    if is_two_way(net, member, move):
                        self.assertEqual(make(net, after, opposite(net, move)), member)
                        self.assertIn(after, box)
                    else:
                        self.assertIn((member, move), list(exits(net, start)))
                        self.assertIs(reaches(net, after, start), False)

    def test_orders_and_plans(self):
        for chance, net, start, reached in cases(186, 60):
            target = chance.choice(reached)
            order = MoveOrder(net, start, target)
            self.assertEqual(order.total, distance(net, start, target))
            moves = tuple([(stage, "advance" if target[stage] > start[stage] else "rollback")
                           for steps in order.rounds() for stage, _ in steps])
            self.assertIs(is_plan(net, start, target, moves), True)
            self.assertEqual(next(order.plans()), plan(net, start, target))
            self.assertEqual(Desk(net, start).run(*moves), target)

    def test_rough_starts(self):
        chance = random.Random(187)
        for _ in range(60):
            net, start = rough_case(chance, 40, 10, 25, 40)
            self.assertIs(is_recoverable(net, start), why_none(net, Box.full(net.stages), start, clean=True) is None)
            low, high = class_floor(net, start), class_ceiling(net, start)
            self.assertIs(mutual(net, low, high), True)
            if distance(net, low, high) <= 2000:
                order = MoveOrder(net, low, high)
                self.assertIs(order.are_rounds(order.rounds()), True)
                self.assertEqual(Desk(net, low).go(high), high)


class TestErrors(Case):

    NAMES = {"InvalidNet": 2, "InvalidState": 1, "InvalidMove": 0, "InvalidBox": 1, "InvalidText": 1, "InvalidLimit": 1,
             "InvalidName": 1, "UnknownName": 1, "NotFound": 1, "Blocked": 3, "Unreachable": 1, "NoState": 1,
             "Unrecoverable": 1, "Contradiction": 1, "TooLarge": 2, "NothingToUndo": 0, "NothingToRedo": 0}

    def test_all_errors_derive_directly_from_the_base_class(self):
        for name, many in self.NAMES.items():
            error = getattr(errors, name)
            self.assertEqual(error.__bases__, (WithinCallError,))
            self.assertEqual(len(vars(error(*range(many)))), many)
        self.assertEqual(WithinCallError.__bases__, (ValueError,))

    def test_nets_and_boxes_are_not_equal_to_other_things(self):
        for net in random_nets()[:20]:
            for value in (None, 0, "", (), net.channels, boxes.Box.full(net.stages), Desk(net, (0,) * net.stages)):
                self.assertIs(net == value, False)
                self.assertIs(net != value, True)
