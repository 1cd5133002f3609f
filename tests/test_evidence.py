"""withincall/evidence.py: points 49 to 53 of the document."""

import itertools
import random

from tests.common import (
    NEVER_MOVES, NEVER_NUMBERS, SAME, Case, behind, lively_case, long_net, may_be_made, moves_of, random_state, search)
from withincall.errors import Contradiction, InvalidMove, InvalidNet, InvalidState, NotFound, TooLarge
from withincall.evidence import Evidence
from withincall.nets import Pipeline, Ring
from withincall.reach import objections, reaches

ROW = Pipeline.row(1, 1)
ADVANCE, ROLLBACK = (1, "advance"), (0, "rollback")


def lasting(net, start, target):
    return [objection for objection in objections(net, start, target) if objection[0] != "jammed"]


def in_question(net, seen):
    """The channels in question with their loads, by the words of point 50."""
    kind, state, about, _ = seen
    found = {}
    for channel, (a, b, _) in enumerate(net.channels):
        if kind == "move":
            drawn = about in ((b, "advance"), (a, "rollback"))
        else:
            drawn = about[a] < state[a] or about[b] > state[b]
        if drawn:
            found[channel] = state[a] - state[b]
    return found


def may_happen(net, seen):
    """Whether some capacities allow the move, or make the target reached."""
    loads = in_question(net, seen)
    if seen[0] == "move":
        return loads != {} and min(loads.values()) >= 1
    return lasting(net, seen[1], seen[2]) == []


def fits_words(net, capacities, seen):
    """Whether the capacities fit the observation, by the words of point 50."""
    loads = in_question(net, seen)
    above = any([load > capacities[channel] for channel, load in loads.items()])
    if seen[3]:
        return may_happen(net, seen) and not above
    return not may_happen(net, seen) or above


def is_certificate(net, seen, certificate):
    """Whether the certificate is one by the words of point 51, if the last of these observations is the new one."""
    number, supports = certificate
    loads = in_question(net, seen[number])
    if seen[number][3]:
        return number == len(seen) - 1 and not may_happen(net, seen[number]) and supports == ()
    if not may_happen(net, seen[number]):
        return False
    if [channel for channel, _ in supports] != sorted([channel for channel in loads if loads[channel] >= 2]):
        return False
    for channel, other in supports:
        shown = in_question(net, seen[other])
        if not seen[other][3] or channel not in shown or shown[channel] < loads[channel]:
            return False
    return True


def snapshot(evidence, channels):
    """All that the evidence tells of itself."""
    return (evidence.noted, [evidence.observation(k) for k in range(evidence.noted)], evidence.is_known,
            [evidence.span(channel) for channel in range(channels)])


def note(evidence, seen):
    """Note the observation."""
    kind, state, about, happened = seen
    if kind == "move":
        return evidence.note_move(state, about, allowed=happened)
    return evidence.note_reach(state, about, reached=happened)


class EvidenceCase(Case):

    def contradicts(self, evidence, net, seen):
        """The observation raises Contradiction with a valid certificate, and nothing changes."""
        before = snapshot(evidence, len(net.channels))
        known = [*before[1], seen]
        with self.assertRaises(Contradiction) as caught:
            note(evidence, seen)
        certificate = caught.exception.certificate
        self.assertEqual((type(certificate), type(certificate[1]), len(certificate)), (tuple, tuple, 2))
        self.assertTrue(is_certificate(net, known, certificate), (known, certificate))
        self.assertEqual(snapshot(evidence, len(net.channels)), before)
        return certificate


class TestDocumentExamples(EvidenceCase):

    def test_spans_and_answers(self):
        seen = Evidence(ROW)
        self.assertEqual(seen.note_move((3, 1, 0), ADVANCE, allowed=True), 0)
        self.assertEqual(seen.note_move((5, 1, 0), ADVANCE, allowed=False), 1)
        found = [seen.span(0), seen.span(1), seen.foretell((4, 1, 0), ADVANCE),
                 seen.foretell_reach((3, 1, 0), (2, 1, 0))]
        self.assertEqual(found, [(2, 3), (1, 999), "unknown", "yes"])

    def test_a_contradiction(self):
        seen = Evidence(ROW)
        self.assertEqual(seen.note_move((3, 1, 0), ADVANCE, allowed=True), 0)
        self.fails(Contradiction, {"certificate": (1, ((0, 0),))}, seen.note_move, (2, 0, 0), ROLLBACK, allowed=False)


class TestObservations(EvidenceCase):
    """Points 49 and 50."""

    def test_they_are_kept_in_their_order(self):
        seen = Evidence(ROW)
        self.assertEqual(seen.noted, 0)
        self.assertEqual(seen.note_reach((3, 1, 0), (2, 1, 0), reached=True), 0)
        self.assertEqual(seen.note_move((3, 0, 0), (2, "advance"), allowed=False), 1)
        self.assertEqual(seen.note_move((3, 0, 0), (2, "advance"), allowed=False), 2)
        self.assertEqual(seen.note_reach((3, 1, 0), (4, 1, 0), reached=False), 3)
        self.assertEqual(seen.noted, 4)
        self.assertEqual([seen.observation(k) for k in range(4)], [
            ("reach", (3, 1, 0), (2, 1, 0), True), ("move", (3, 0, 0), (2, "advance"), False),
            ("move", (3, 0, 0), (2, "advance"), False), ("reach", (3, 1, 0), (4, 1, 0), False)])
        for value in (*NEVER_NUMBERS, 4, 200, SAME):
            self.fails(NotFound, {"number": value}, seen.observation, value)

    def test_the_capacities_of_the_net_are_not_used(self):
        for net in (ROW, Pipeline.row(999, 3)):
            seen = Evidence(net)
            self.assertEqual([seen.span(0), seen.span(1)], [(1, 999), (1, 999)])
            self.assertEqual(seen.foretell((3, 1, 0), ADVANCE), "unknown")
            self.assertEqual(seen.note_move((9, 1, 0), ADVANCE, allowed=True), 0)
            self.assertIs(seen.fits(8, 1), True)

    def test_moves(self):
        # A side without channels, a load of 0, an owing channel: never allowed.
        net = Pipeline(4, (0, 2), (1, 2), (2, 3))
        for state, move in (((5, 5, 4, 0), (0, "advance")), ((5, 5, 4, 0), (3, "rollback")),
                            ((5, 4, 4, 0), (2, "advance")),
                            ((3, 9, 4, 0), (2, "advance")), ((5, 5, 4, 4), (2, "rollback"))):
            seen = Evidence(net)
            self.assertEqual(seen.foretell(state, move), "no")
            self.assertEqual(self.contradicts(seen, net, ("move", state, move, True)), (0, ()))
            self.assertEqual(seen.note_move(state, move, allowed=False), 0)
            self.assertEqual([seen.span(channel) for channel in range(3)], [(1, 999)] * 3)
        # A load of 1 in each channel: always allowed.
        seen = Evidence(net)
        self.assertEqual(seen.foretell((5, 5, 4, 0), (2, "advance")), "yes")
        self.assertEqual(self.contradicts(seen, net, ("move", (5, 5, 4, 0), (2, "advance"), False)), (0, ()))
        self.assertEqual(seen.note_move((5, 5, 4, 0), (2, "advance"), allowed=True), 0)
        self.assertEqual([seen.span(channel) for channel in range(3)], [(1, 999)] * 3)
        # Greater loads: it depends.
        self.assertEqual(seen.note_move((9, 6, 4, 0), (2, "advance"), allowed=True), 1)
        self.assertEqual([seen.span(channel) for channel in range(3)], [(5, 999), (2, 999), (1, 999)])
        self.assertEqual(seen.note_move((9, 8, 4, 0), (2, "advance"), allowed=False), 2)
        self.assertEqual([seen.span(channel) for channel in range(3)], [(5, 999), (2, 3), (1, 999)])

    def test_targets(self):
        net = Pipeline.row(1, 1, 1)
        for start, target in (((5, 3, 1, 0), (6, 3, 1, 0)), ((5, 3, 1, 1), (5, 3, 1, 0)), ((5, 3, 1, 0), (5, 6, 1, 0)),
                              ((5, 3, 1, 0), (6, 9, 1, 0))):
            seen = Evidence(net)
            self.assertEqual(seen.foretell_reach(start, target), "no")
            self.assertEqual(self.contradicts(seen, net, ("reach", start, target, True)), (0, ()))
            self.assertEqual(seen.note_reach(start, target, reached=False), 0)
            self.assertEqual([seen.span(channel) for channel in range(3)], [(1, 999)] * 3)
        # The start itself, and targets for which no great load matters.
        for start, target in (((5, 3, 1, 0), (5, 3, 1, 0)), ((0, 9, 5, 7), (0, 9, 5, 7)), ((5, 4, 9, 9), (5, 5, 9, 9))):
            seen = Evidence(net)
            self.assertEqual(seen.foretell_reach(start, target), "yes")
            self.assertEqual(self.contradicts(seen, net, ("reach", start, target, False)), (0, ()))
            self.assertEqual(seen.note_reach(start, target, reached=True), 0)
            self.assertEqual([seen.span(channel) for channel in range(3)], [(1, 999)] * 3)
        # Stage 1 advances, and stage 2 rolls back.
        seen = Evidence(net)
        self.assertEqual(seen.note_reach((9, 4, 3, 0), (9, 5, 2, 0), reached=True), 0)
        self.assertEqual([seen.span(channel) for channel in range(3)], [(5, 999), (1, 999), (3, 999)])
        self.assertEqual(seen.note_reach((9, 1, 1, 0), (9, 2, 1, 0), reached=False), 1)
        self.assertEqual([seen.span(channel) for channel in range(3)], [(5, 7), (1, 999), (3, 999)])

    def test_rings(self):
        ring = Ring(1, 1, 1)
        seen = Evidence(ring)
        self.assertEqual(seen.foretell_reach((5, 2, 2), (6, 2, 2)), "no")
        self.assertEqual(seen.note_reach((5, 2, 2), (6, 2, 2), reached=False), 0)
        self.assertEqual(seen.note_reach((5, 2, 2), (5, 3, 2), reached=True), 1)
        self.assertEqual([seen.span(channel) for channel in range(3)], [(3, 999), (1, 999), (1, 999)])


class TestSmallNets(EvidenceCase):
    """Points 49 to 52: all agrees with going through all capacities."""

    # Loads are at most five, so capacities of six and more are alike.
    TOP = 6

    def some_observation(self, chance, net, hidden, start):
        """A move or a target, mostly with the answer that the hidden capacities give."""
        real = net.resized(*hidden)
        if chance.random() < 0.5:
            state = chance.choice(sorted(search(real,
                                                start))) if chance.random() < 0.6 else random_state(chance, net, 5)
            move = chance.choice(moves_of(net))
            found = ("move", state, move, may_be_made(real, state, move))
        else:
            near = sorted(search(real, start))
            target = chance.choice(near) if chance.random() < 0.6 else random_state(chance, net, 5)
            found = ("reach", start, target, target in near)
        return found if chance.random() < 0.85 else (*found[:3], not found[3])

    def check(self, evidence, net, rows, seen):
        """The evidence tells of all observations what going through the rows of capacities tells."""
        fitting = [row for row in rows if all([fits_words(net, row, one) for one in seen])]
        for channel in range(len(net.channels)):
            found = sorted({row[channel] for row in fitting})
            self.assertEqual(found, list(range(found[0], found[-1] + 1)))
            self.assertEqual(evidence.span(channel), (found[0], 999 if found[-1] == self.TOP else found[-1]))
        for row in rows:
            self.assertIs(evidence.fits(*row), row in fitting)
        for most in (1, 2, 3, self.TOP):
            self.assertEqual(list(evidence.fitting(most)), [row for row in fitting if max(row, default=1) <= most])
        self.assertIs(evidence.is_known, len(fitting) == 1 and self.TOP not in fitting[0])

    def test_all(self):
        chance = random.Random(131)
        answers, kept, refused = [], 0, 0
        for _ in range(120):
            net, start, _ = lively_case(chance, 5)
            if len(net.channels) > 3:
                continue
            rows = list(itertools.product(range(1, self.TOP + 1), repeat=len(net.channels)))
            hidden = chance.choice(rows)
            evidence, seen = Evidence(net), []
            for _ in range(9):
                new = self.some_observation(chance, net, hidden, start)
                fitting = [row for row in rows if all([fits_words(net, row, one) for one in seen])]
                happens = {fits_words(net, row, (*new[:3], True)) for row in fitting}
                answer = "unknown" if len(happens) == 2 else "yes" if True in happens else "no"
                ask = evidence.foretell if new[0] == "move" else evidence.foretell_reach
                self.assertEqual(ask(new[1], new[2]), answer)
                answers.append((new[0], answer))
                if new[3] in happens:
                    self.assertEqual(note(evidence, new), len(seen))
                    seen.append(new)
                    kept += 1
                else:
                    self.contradicts(evidence, net, new)
                    refused += 1
                self.check(evidence, net, rows, seen)
            self.assertEqual([evidence.observation(k) for k in range(evidence.noted)], seen)
        for kind in ("move", "reach"):
            for answer in ("yes", "no", "unknown"):
                self.assertGreater(answers.count((kind, answer)), 20)
        self.assertGreater(min(kept, refused), 50)

    def test_the_words_are_what_the_nets_do(self):
        chance = random.Random(132)
        for _ in range(150):
            net, start, found = lively_case(chance, 4)
            capacities = [capacity for _, _, capacity in net.channels]
            evidence = Evidence(net)
            for state in chance.sample(sorted(found), min(4, len(found))):
                for move in chance.sample(moves_of(net), min(3, net.stages)):
                    evidence.note_move(state, move, allowed=may_be_made(net, state, move))
                target = random_state(chance, net, 4)
                evidence.note_reach(state, target, reached=reaches(net, state, target))
                self.assertIs(evidence.fits(*capacities), True)
                self.assertIn(evidence.foretell_reach(start, state), ("yes", "unknown"))


class TestTellsOfEachOther(EvidenceCase):
    """Point 52."""

    def test_moves_tell_about_targets(self):
        seen = Evidence(ROW)
        seen.note_move((5, 1, 0), ADVANCE, allowed=True)
        self.assertEqual(seen.foretell_reach((4, 0, 0), (4, 1, 0)), "yes")
        self.assertEqual(seen.foretell_reach((5, 0, 0), (5, 1, 0)), "unknown")
        seen.note_move((5, 0, 0), ADVANCE, allowed=False)
        self.assertEqual(seen.foretell_reach((5, 0, 0), (5, 1, 0)), "no")
        self.assertEqual(seen.span(0), (4, 4))
        self.assertIs(seen.is_known, False)

    def test_targets_tell_about_moves(self):
        seen = Evidence(ROW)
        seen.note_reach((9, 3, 0), (7, 3, 0), reached=True)
        self.assertEqual(seen.foretell((6, 0, 0), ADVANCE), "yes")
        self.assertEqual(seen.foretell((7, 0, 0), ADVANCE), "unknown")
        self.assertEqual(seen.foretell((7, 0, 0), (0, "rollback")), "unknown")
        seen.note_reach((7, 0, 0), (7, 1, 0), reached=False)
        self.assertEqual(seen.foretell((7, 0, 0), (0, "rollback")), "no")

    def test_all_observations_together(self):
        # One of two channels is too small; later it is known which one.
        net = Pipeline(3, (0, 2), (1, 2))
        seen = Evidence(net)
        seen.note_move((4, 6, 0), (2, "advance"), allowed=False)
        self.assertEqual([seen.span(0), seen.span(1)], [(1, 999), (1, 999)])
        self.assertEqual(seen.foretell((5, 6, 0), (2, "advance")), "no")
        self.assertEqual(seen.foretell((5, 5, 0), (2, "advance")), "unknown")
        seen.note_move((4, 4, 0), (0, "rollback"), allowed=True)
        self.assertEqual([seen.span(0), seen.span(1)], [(4, 999), (1, 5)])
        self.assertEqual(seen.foretell((9, 6, 0), (1, "rollback")), "no")
        self.assertEqual(self.contradicts(seen, net, ("move", (9, 6, 0), (1, "rollback"), True))[0], 0)
        seen.note_move((9, 5, 0), (1, "rollback"), allowed=True)
        seen.note_move((5, 9, 0), (0, "rollback"), allowed=False)
        self.assertEqual([seen.span(0), seen.span(1)], [(4, 4), (5, 5)])
        self.assertIs(seen.is_known, True)
        self.assertEqual(list(seen.fitting(9)), [(4, 5)])

    def test_the_greatest_capacity(self):
        seen = Evidence(Pipeline.row(1))
        seen.note_move((999, 0), ADVANCE, allowed=False)
        self.assertEqual(seen.span(0), (1, 998))
        seen.note_move((999, 1), ADVANCE, allowed=True)
        self.assertEqual(seen.span(0), (998, 998))
        self.assertIs(seen.is_known, True)
        seen = Evidence(Pipeline.row(1))
        seen.note_move((999, 0), ADVANCE, allowed=True)
        self.assertEqual(seen.span(0), (999, 999))
        self.assertIs(seen.is_known, True)

    def test_nets_without_channels(self):
        for net in (Pipeline(1), Pipeline(3)):
            seen = Evidence(net)
            self.assertIs(seen.is_known, True)
            self.assertIs(seen.fits(), True)
            self.assertEqual(list(seen.fitting(1)), [()])
            self.assertEqual(list(seen.fitting(999)), [()])
            start = (5,) * net.stages
            seen.note_move(start, (0, "advance"), allowed=False)
            seen.note_reach(start, start, reached=True)
            seen.note_reach(start, (6,) * net.stages, reached=False)
            self.assertEqual(list(seen.fitting(5)), [()])
            self.assertIs(seen.fits(), True)
            self.contradicts(seen, net, ("reach", start, start, False))
            for value in (*NEVER_NUMBERS, 0, 1):
                self.fails(NotFound, {"number": value}, seen.span, value)


class TestCertificates(EvidenceCase):
    """Point 51."""

    def test_an_allowed_move_that_no_capacities_allow(self):
        seen = Evidence(ROW)
        seen.note_move((3, 1, 0), ADVANCE, allowed=True)
        self.assertEqual(self.contradicts(seen, ROW, ("move", (3, 3, 0), ADVANCE, True)), (1, ()))
        self.assertEqual(self.contradicts(seen, ROW, ("reach", (3, 3, 0), (3, 3, 4), True)), (1, ()))

    def test_the_new_observation_is_refused(self):
        net = Pipeline(4, (0, 2), (1, 2), (2, 3))
        seen = Evidence(net)
        seen.note_move((5, 1, 0, 0), (0, "rollback"), allowed=True)
        seen.note_reach((9, 7, 0, 0), (9, 6, 0, 0), reached=True)
        self.assertEqual(self.contradicts(seen, net, ("move", (5, 7, 0, 0), (2, "advance"), False)),
                         (2, ((0, 0), (1, 1))))
        self.assertEqual(self.contradicts(seen, net, ("reach", (5, 7, 0, 0), (5, 7, 1, 0), False)),
                         (2, ((0, 0), (1, 1))))
        self.assertEqual(self.contradicts(seen, net, ("reach", (1, 7, 0, 0), (1, 7, 1, 0), False)), (2, ((1, 1),)))
        self.assertEqual(seen.note_move((6, 7, 0, 0), (2, "advance"), allowed=False), 2)

    def test_an_old_observation_is_refused(self):
        net = Pipeline(4, (0, 2), (1, 2), (2, 3))
        seen = Evidence(net)
        seen.note_move((5, 7, 0, 0), (2, "advance"), allowed=False)
        seen.note_move((5, 1, 0, 0), (0, "rollback"), allowed=True)
        for new in (("move", (9, 7, 0, 0), (1, "rollback"), True), ("move", (1, 9, 0, 0), (2, "advance"), True),
                    ("reach", (3, 7, 0, 0), (3, 6, 0, 0), True)):
            self.assertEqual(self.contradicts(seen, net, new), (0, ((0, 1), (1, 2))))

    def test_both_may_be_the_new_one(self):
        seen = Evidence(ROW)
        self.assertEqual(self.contradicts(seen, ROW, ("reach", (3, 1, 0), (3, 1, 0), False)), (0, ()))
        self.assertEqual(self.contradicts(seen, ROW, ("move", (1, 0, 0), ADVANCE, False)), (0, ()))

    def test_nothing_has_changed_behind_an_error(self):
        seen = Evidence(ROW)
        seen.note_move((3, 1, 0), ADVANCE, allowed=True)
        before = snapshot(seen, 2)
        for call, args, named in (
                (seen.note_move, ((2, 0, 0), ROLLBACK), {"allowed": False}),
                (seen.note_move, (None, None), {"allowed": True}),
                (seen.note_move, ((2, 0, 0), None), {"allowed": True}),
                (seen.note_reach, ((2, 0, 0), None), {"reached": True}),
                (seen.note_log, ((2, 0, 0), ((1, "advance", "refused"),)), {}), (seen.note_log, ((2, 0, 0), None), {}),
                (seen.span, (2,), {}), (seen.fits, (1, 1, 1), {}), (seen.foretell, (None, None), {}),
                (seen.observation, (1,), {})):
            with self.assertRaises((Contradiction, InvalidState, InvalidMove, NotFound, InvalidNet)):
                call(*args, **named)
            self.assertEqual(snapshot(seen, 2), before)


class TestLogs(EvidenceCase):
    """Point 53."""

    def test_lines_are_observations_of_their_moves(self):
        seen = Evidence(ROW)
        log = ((1, "advance", "done"), (0, "rollback", "done"), (2, "advance", "refused"), (1, "advance", "done"))
        self.assertEqual(seen.note_log((5, 1, 0), log), (4, 3, 0))
        self.assertEqual([seen.observation(k) for k in range(seen.noted)], [
            ("move", (5, 1, 0), (1, "advance"), True), ("move", (5, 2, 0), (0, "rollback"), True),
            ("move", (4, 2, 0), (2, "advance"), False), ("move", (4, 2, 0), (1, "advance"), True)])
        self.assertEqual([seen.span(0), seen.span(1)], [(4, 999), (1, 1)])

    def test_the_last_line_contradicts(self):
        seen = Evidence(ROW)
        seen.note_move((2, 0, 0), ADVANCE, allowed=True)
        before = snapshot(seen, 2)
        log = ((1, "advance", "done"), (0, "rollback", "done"), (1, "advance", "refused"))
        # The first line shows a capacity of 5, so the last one, with a load of 3, cannot be refused.
        self.fails(Contradiction, {"certificate": (3, ((0, 1),))}, seen.note_log, (5, 0, 0), log)
        self.assertEqual(snapshot(seen, 2), before)
        self.assertEqual(seen.note_log((5, 0, 0), log[:2]), (4, 1, 0))
        self.assertEqual(seen.noted, 3)

    def test_a_line_that_could_never_be_done(self):
        for start, line in (((0, 0, 0), (1, "advance", "done")), ((999, 999, 999), (1, "advance", "done")),
                            ((0, 0, 0), (0, "rollback", "done")), ((0, 0, 0), (2, "rollback", "done")),
                            ((999, 0, 0), (0, "advance", "done"))):
            seen = Evidence(ROW)
            self.fails(Contradiction, {"certificate": (0, ())}, seen.note_log, start, (line,))
            self.assertEqual(seen.noted, 0)

    def test_as_single_observations(self):
        chance = random.Random(133)
        whole = 0
        for _ in range(200):
            net, start, _ = lively_case(chance, 4)
            state, log, one_by_one, failed = start, [], Evidence(net), None
            for _ in range(6):
                move = chance.choice(moves_of(net))
                done = may_be_made(net, state, move) != (chance.random() < 0.05)
                log.append((*move, "done" if done else "refused"))
                try:
                    if failed is None:
                        one_by_one.note_move(state, move, allowed=done)
                except Contradiction as error:
                    failed = error.certificate
                state = behind(state, move) if done else state
            together = Evidence(net)
            if failed is None:
                whole += 1
                self.assertEqual(together.note_log(start, tuple(log)), state)
                self.assertEqual(snapshot(together, len(net.channels)), snapshot(one_by_one, len(net.channels)))
            else:
                self.fails(Contradiction, {"certificate": failed}, together.note_log, start, tuple(log))
                self.assertEqual(together.noted, 0)
        self.assertGreater(min(whole, 200 - whole), 20)

    def test_the_empty_log(self):
        seen = Evidence(ROW)
        self.assertEqual(seen.note_log((5, 0, 9), ()), (5, 0, 9))
        self.assertEqual(seen.noted, 0)


class TestLimits(EvidenceCase):
    """Point 53."""

    def full(self, many):
        """Evidence with so many observations."""
        seen = Evidence(ROW)
        for k in range(many):
            seen.note_move((3 + k, 1 + k, 0), ADVANCE, allowed=True)
        return seen

    def test_200_and_201_observations(self):
        seen = self.full(199)
        self.assertEqual(seen.note_reach((3, 1, 0), (2, 1, 0), reached=True), 199)
        before = snapshot(seen, 2)
        self.fails(TooLarge, {"size": 201, "most": 200}, seen.note_move, (3, 1, 0), ADVANCE, allowed=True)
        self.fails(TooLarge, {"size": 201, "most": 200}, seen.note_reach, (3, 1, 0), (2, 1, 0), reached=True)
        line = (1, "advance", "refused")
        self.fails(TooLarge, {"size": 201, "most": 200}, seen.note_log, (5, 0, 0), (line,))
        self.fails(TooLarge, {"size": 300, "most": 200}, seen.note_log, (5, 0, 0), (line,) * 100)
        self.assertEqual(snapshot(seen, 2), before)
        self.assertEqual(seen.note_log((5, 0, 0), ()), (5, 0, 0))

    def test_logs_up_to_the_limit(self):
        line = (1, "advance", "refused")
        seen = self.full(100)
        self.assertEqual(seen.note_log((5, 0, 0), (line,) * 100), (5, 0, 0))
        self.assertEqual(seen.noted, 200)
        seen = self.full(101)
        self.fails(TooLarge, {"size": 201, "most": 200}, seen.note_log, (5, 0, 0), (line,) * 100)
        self.assertEqual(seen.noted, 101)

    def test_behind_the_errors_of_the_arguments_and_before_contradictions(self):
        seen = self.full(200)
        self.fails(InvalidState, {"position": None}, seen.note_move, None, None, allowed=True)
        self.fails(InvalidMove, {}, seen.note_move, (3, 1, 0), None, allowed=True)
        self.fails(InvalidState, {"position": 2}, seen.note_reach, (3, 1, 0), (3, 1, -1), reached=True)
        self.fails(InvalidMove, {}, seen.note_log, (3, 1, 0), (None,))
        self.fails(InvalidState, {"position": None}, seen.note_log, None, None)
        too_many = {"size": 201, "most": 200}
        self.fails(TooLarge, too_many, seen.note_move, (3, 1, 0), ADVANCE, allowed=False)
        self.fails(TooLarge, too_many, seen.note_move, (3, 3, 0), ADVANCE, allowed=True)
        self.fails(TooLarge, too_many, seen.note_reach, (3, 3, 0), (3, 3, 0), reached=False)
        self.fails(TooLarge, too_many, seen.note_log, (3, 3, 0), ((1, "advance", "done"),))

    def test_fitting_up_to_20000(self):
        row = Pipeline.row(1, 1, 1)
        self.assertEqual(len(list(self.quick(Evidence(row).fitting, 27))), 27 ** 3)
        self.fails(TooLarge, {"size": 28 ** 3, "most": 20000}, lambda: next(Evidence(row).fitting(28)))
        long = Evidence(long_net())
        self.assertEqual(list(self.quick(long.fitting, 1)), [(1,) * 120])
        self.fails(TooLarge, {"size": 2 ** 120, "most": 20000}, lambda: next(long.fitting(2)))
        two = Evidence(Pipeline.row(1, 1))
        self.assertEqual(len(self.quick(lambda: list(two.fitting(141)))), 19881)
        self.fails(TooLarge, {"size": 142 * 142, "most": 20000}, lambda: next(two.fitting(142)))
        self.assertEqual(len(list(Evidence(Pipeline.row(1)).fitting(999))), 999)

    def test_fitting_with_many_refused_observations(self):
        net = Pipeline(28, *[(2 * k, 2 * k + 1) for k in range(14)])
        seen = Evidence(net)
        for low, high in itertools.islice(itertools.combinations(range(14), 2), 80):
            start = tuple(itertools.chain(*[(2, 0) if k in (low, high) else (1, 0) for k in range(14)]))
            target = tuple([counter if k % 2 == 0 else 1 for k, counter in enumerate(start)])
            seen.note_reach(start, target, reached=False)
        found = self.quick(lambda: list(seen.fitting(2)))
        self.assertEqual(found, sorted(found))
        self.assertEqual(found[:2], [(1,) * 14, (1,) * 13 + (2,)])
        for row in found[::7]:
            self.assertIs(seen.fits(*row), True)


class TestTwins(EvidenceCase):

    def test_they_do_not_influence_each_other(self):
        seen = Evidence(ROW)
        seen.note_move((3, 1, 0), ADVANCE, allowed=True)
        other = seen.twin()
        self.assertIsInstance(other, Evidence)
        self.assertEqual(snapshot(other, 2), snapshot(seen, 2))
        before = snapshot(seen, 2)
        self.assertEqual(other.note_move((9, 1, 0), ADVANCE, allowed=False), 1)
        self.assertEqual(other.note_log((9, 1, 0), ((2, "advance", "done"),)), (9, 1, 1))
        self.assertEqual(snapshot(seen, 2), before)
        after = snapshot(other, 2)
        self.assertEqual(seen.note_move((7, 1, 0), ADVANCE, allowed=True), 1)
        self.assertEqual(snapshot(other, 2), after)
        self.assertEqual(other.observation(1), ("move", (9, 1, 0), ADVANCE, False))
        self.assertEqual(seen.observation(1), ("move", (7, 1, 0), ADVANCE, True))
        third = other.twin()
        self.contradicts(other, ROW, ("move", (9, 1, 0), ADVANCE, True))
        self.assertEqual(snapshot(third, 2), after)

    def test_two_of_one_net(self):
        first, second = Evidence(ROW), Evidence(ROW)
        first.note_move((9, 1, 0), ADVANCE, allowed=True)
        self.assertEqual((second.noted, second.span(0)), (0, (1, 999)))
        self.assertEqual(ROW, Pipeline.row(1, 1))


class TestErrors(EvidenceCase):

    BAD_STATES = ((None, None), ((2, 1), None), ((2, 1, 1000), 2), ((2, True, -1), 1), ([2, 1, 0], None))

    def test_the_state_comes_first(self):
        seen = Evidence(ROW)
        for state, position in self.BAD_STATES:
            self.fails(InvalidState, {"position": position}, seen.note_move, state, None, allowed=True)
            self.fails(InvalidState, {"position": position}, seen.note_reach, state, None, reached=True)
            self.fails(InvalidState, {"position": position}, seen.note_reach, (2, 1, 0), state, reached=False)
            self.fails(InvalidState, {"position": position}, seen.note_log, state, None)
            self.fails(InvalidState, {"position": position}, seen.foretell, state, None)
            self.fails(InvalidState, {"position": position}, seen.foretell_reach, state, None)
            self.fails(InvalidState, {"position": position}, seen.foretell_reach, (2, 1, 0), state)

    def test_no_moves_and_no_logs(self):
        seen = Evidence(ROW)
        for value in (*NEVER_MOVES, (3, "advance")):
            self.fails(InvalidMove, {}, seen.note_move, (2, 1, 0), value, allowed=True)
            self.fails(InvalidMove, {}, seen.note_move, (2, 1, 0), value, allowed=False)
            self.fails(InvalidMove, {}, seen.foretell, (2, 1, 0), value)
        good = (1, "advance", "done")
        for log in (None, [good], good, (good, None), (good, (1, "advance")), (good, (3, "advance", "done")),
                    (good, (1, "advance", "Done")), ((True, "advance", "done"),), "log", SAME):
            self.fails(InvalidMove, {}, seen.note_log, (2, 1, 0), log)
        self.assertEqual(seen.noted, 0)

    def test_no_channels(self):
        seen = Evidence(ROW)
        for value in (*NEVER_NUMBERS, 2, 3, 120, SAME):
            self.fails(NotFound, {"number": value}, seen.span, value)
            self.fails(NotFound, {"number": value}, seen.observation, value)

    def test_no_capacities(self):
        for net in (ROW, Ring(1, 1, 1)):
            seen = Evidence(net)
            many = len(net.channels)
            for row in ((), (1,), (1,) * (many + 1), (None,) * (many + 1)):
                self.fails(InvalidNet, {"reason": "count", "position": None}, seen.fits, *row)
            for value in (0, 1000, -1, True, None, "1", 1.0):
                self.fails(InvalidNet, {"reason": "capacity", "position": 1}, seen.fits, 1, value, *[1] * (many - 2))
            self.assertIs(seen.fits(*[1] * many), True)
            self.assertIs(seen.fits(*[999] * many), True)

    def test_answers_are_given_by_name(self):
        seen = Evidence(ROW)
        with self.assertRaises(TypeError):
            seen.note_move((2, 1, 0), ADVANCE, True)
        with self.assertRaises(TypeError):
            seen.note_reach((2, 1, 0), (2, 1, 0), True)

    def test_properties_cannot_be_assigned(self):
        for name in ("noted", "is_known"):
            with self.assertRaises(AttributeError):
                setattr(Evidence(ROW), name, 5)


class TestWork(EvidenceCase):

    def test_200_observations_of_a_large_net(self):
        chance = random.Random(134)
        net = long_net(capacity=500)
        seen = Evidence(net)

        def fill():
            for k in range(200):
                start = tuple(sorted([chance.randint(0, 999) for _ in range(40)], reverse=True))
                if k % 2:
                    target = tuple([max(0, counter - chance.randint(0, 1)) for counter in start])
                    seen.note_reach(start, target, reached=reaches(net, start, target))
                else:
                    move = chance.choice(moves_of(net))
                    seen.note_move(start, move, allowed=may_be_made(net, start, move))

        self.quick(fill)
        self.assertIs(self.quick(seen.fits, *[500] * 120), True)
        self.assertIs(self.quick(lambda: seen.is_known), False)
        for channel in range(120):
            low, high = seen.span(channel)
            self.assertTrue(low <= 500 <= high)
        start = tuple(range(999, 959, -1))
        self.assertEqual(self.quick(seen.foretell_reach, start, start), "yes")
        self.quick(seen.foretell, start, (5, "advance"))
        self.quick(seen.twin)

    def test_a_log_of_100_lines(self):
        net = long_net()
        log = tuple([(39, "advance", "done") for _ in range(100)])
        self.assertEqual(self.quick(Evidence(net).note_log, (999,) * 39 + (0,), log), (999,) * 39 + (100,))
