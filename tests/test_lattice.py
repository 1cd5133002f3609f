"""withincall/lattice.py: points 28 to 31 of the document."""

import inspect
import itertools
import random

from tests.common import NEVER_NUMBERS, SAME, Case, long_net, random_state, search, small_net
from withincall.boxes import Box
from withincall.errors import InvalidBox, InvalidNet, InvalidState, NoState
from withincall.lattice import greatest, is_certificate, least, nearest, why_none
from withincall.nets import Pipeline, Ring
from withincall.reach import distance, reaches
from withincall.states import is_clean

ROW = Pipeline.row(2, 1)
TWO = Pipeline.row(2, 2)
RING = Ring(2, 2, 2)
FULL = Box.full(3)


class Question:
    """Which states are chosen, and which certificates are valid, by the words of points 28 to 31."""

    def __init__(self, net, box, *starts, goal=None, clean=False):
        self.net, self.box, self.starts, self.goal, self.clean = net, box, starts, goal, clean
        self.tops, self.bottoms = self.marks(True), self.marks(False)

    def ask(self, call):
        return call(self.net, self.box, *self.starts, goal=self.goal, clean=self.clean)

    def check(self, certificate):
        return is_certificate(self.net, certificate, self.box, *self.starts, goal=self.goal, clean=self.clean)

    def chosen(self):
        """All chosen states, found by going through all states of the box."""
        reached = [search(self.net, start) for start in self.starts]
        windows = [range(low, high + 1) for low, high in zip(self.box.lows, self.box.highs)]
        return [state for state in itertools.product(*windows)
                if all(state in found for found in reached)
                and (self.goal is None or self.goal in search(self.net, state))
                and (is_clean(self.net, state) or not self.clean)]

    def load(self, state, channel):
        producer, consumer, _ = self.net.channels[channel]
        return state[producer] - state[consumer]

    def stage_marks(self, reason, number, above):
        """The bound that a mark of a stage tells, by the starts that it may name."""
        net, goal = self.net, self.goal
        fed = any(channel[1] == number for channel in net.channels)
        feeds = any(channel[0] == number for channel in net.channels)
        if reason == "window":
            return {None: (self.box.highs if above else self.box.lows)[number]}
        if reason == ("source" if above else "sink") and not (fed if above else feeds):
            return {k: start[number] for k, start in enumerate(self.starts)}
        if reason == "range" and net.is_ring():
            return {k: (max if above else min)(start) for k, start in enumerate(self.starts)}
        if reason == ("goal sink" if above else "goal source") and not (feeds if above else fed) and goal:
            return {None: goal[number]}
        return {}

    def channel_marks(self, reason, number, above):
        """The end of a channel that a mark bounds, and the bound, by the starts that it may name."""
        producer, consumer, capacity = self.net.channels[number]
        if reason == "jammed":
            end = consumer if above else producer
            return {k: (end, start[end]) for k, start in enumerate(self.starts)
                    if self.load(start, number) > capacity}
        if reason == "goal owing" and self.goal and self.load(self.goal, number) < 0:
            end = producer if above else consumer
            return {None: (end, self.goal[end])}
        return {}

    def marks(self, above):
        """All marks, with the stage and the bound that each one tells."""
        found = {}
        for reason in ("window", "source", "sink", "range", "goal sink", "goal source"):
            for number in range(self.net.stages):
                for which, bound in self.stage_marks(reason, number, above).items():
                    found[reason, number, which] = (number, bound)
        for reason in ("jammed", "goal owing"):
            for number in range(len(self.net.channels)):
                for which, pair in self.channel_marks(reason, number, above).items():
                    found[reason, number, which] = pair
        return found

    def led(self, stage, bound, step):
        """The stage and the bound to which the step leads, or None."""
        channel, rule = step
        producer, consumer, capacity = self.net.channels[channel]
        if rule == "goal":
            if self.goal is None or stage != consumer:
                return None
            p, q = self.goal[producer], self.goal[consumer]
            return producer, bound + capacity if bound < q else max(bound + capacity, p)
        if stage != producer:
            return None
        if rule == "clean":
            return (consumer, bound) if self.clean else None
        start = self.starts[rule]
        if self.load(start, channel) > capacity:
            return None
        p, q = start[producer], start[consumer]
        return consumer, bound if bound < p else max(bound, q)

    def is_valid(self, certificate):
        """Whether a certificate of the right form is valid."""
        top, steps, bottom = certificate
        if top not in self.tops or bottom not in self.bottoms:
            return False
        place = self.tops[top]
        for step in steps:
            place = self.led(*place, step)
            if place is None:
                return False
        return place[0] == self.bottoms[bottom][0] and place[1] < self.bottoms[bottom][1]

    def all_steps(self):
        rules = [*range(len(self.starts)), "clean", "goal"]
        return list(itertools.product(range(len(self.net.channels)), rules))


def random_question(chance, most=3):
    """A question about a small net, with small counters."""
    net = small_net(chance)
    lows = tuple([chance.choice((0, 0, chance.randint(0, most))) for _ in range(net.stages)])
    highs = tuple([chance.choice((most, most, chance.randint(0, most))) for _ in range(net.stages)])
    starts = [random_state(chance, net, most) for _ in range(chance.choice((0, 1, 1, 2, 3)))]
    if len(starts) > 1 and chance.random() < 0.6:
        # Starts that have common reached states.
        near = sorted(search(net, starts[0]))
        starts = [chance.choice(near) for _ in starts]
    goal = None
    if not net.is_ring() and chance.random() < 0.5:
        goal = random_state(chance, net, most)
        if starts and chance.random() < 0.6:
            goal = chance.choice(sorted(search(net, starts[0])))
    return Question(net, Box(lows, highs), *starts, goal=goal, clean=chance.random() < 0.3)


class LatticeCase(Case):

    def no_state(self, question, call, *args, **named):
        """The call raises NoState with a certificate that is valid for the question."""
        with self.assertRaises(NoState) as caught:
            call(*args, **named)
        self.assertIs(caught.exception.__class__, NoState)
        self.assert_valid(question, caught.exception.certificate)

    def assert_valid(self, question, certificate):
        self.assertIs(type(certificate), tuple)
        self.assertIs(type(certificate[1]), tuple)
        self.assertTrue(question.is_valid(certificate), certificate)
        self.assertIs(question.check(certificate), True)


class TestDocumentExamples(LatticeCase):

    def test_chosen_states(self):
        box = FULL.narrowed(2, low=1)
        self.assertEqual([greatest(ROW, box, (2, 1, 0)), least(ROW, box, (2, 1, 0)), nearest(ROW, box, (2, 1, 0))],
                         [(2, 2, 2), (1, 1, 1), (2, 1, 1)])

    def test_certificate(self):
        box = Box((0, 0, 2), (9, 9, 9))
        certificate = (("source", 0, 0), ((0, 0), (1, 0)), ("window", 2, None))
        self.assertIs(is_certificate(TWO, certificate, box, (1, 0, 0)), True)
        self.assertEqual(Question(TWO, box, (1, 0, 0)).chosen(), [])
        self.no_state(Question(TWO, box, (1, 0, 0)), greatest, TWO, box, (1, 0, 0))

    def test_arguments(self):
        for call in (greatest, least, why_none):
            self.assertEqual(str(inspect.signature(call)), "(net, box, *starts, goal=None, clean=False)")
        self.assertEqual(str(inspect.signature(nearest)), "(net, box, start, *, goal=None)")
        self.assertEqual(str(inspect.signature(is_certificate)),
                         "(net, certificate, box, *starts, goal=None, clean=False)")


class TestChosenStates(LatticeCase):
    """Points 28 and 29."""

    def test_without_starts_all_states_of_the_box_are_chosen(self):
        box = Box((1, 0, 5), (3, 999, 5))
        for net in (ROW, RING, Pipeline(3)):
            self.assertEqual(greatest(net, box), (3, 999, 5))
            self.assertEqual(least(net, box), (1, 0, 5))
            self.assertIsNone(why_none(net, box))

    def test_an_empty_box(self):
        for box in (Box((0, 3, 0), (9, 2, 9)), Box((9, 9, 9), (0, 0, 0)), Box((0, 0, 999), (0, 0, 998))):
            for net in (ROW, RING, Pipeline(3)):
                question = Question(net, box)
                self.no_state(question, greatest, net, box)
                self.no_state(question, least, net, box)
                self.assert_valid(question, why_none(net, box))

    def test_clean_states(self):
        box = Box((0, 2, 0), (5, 9, 9))
        self.assertEqual(greatest(ROW, box, clean=True), (5, 5, 5))
        self.assertEqual(least(ROW, box, clean=True), (2, 2, 0))
        self.assertEqual(greatest(RING, box, clean=True), (5, 5, 5))
        self.assertEqual(least(RING, box, clean=True), (2, 2, 2))
        tight = Box((0, 6, 0), (5, 9, 9))
        for net in (ROW, RING):
            self.no_state(Question(net, tight, clean=True), greatest, net, tight, clean=True)

    def test_a_goal(self):
        self.assertEqual(greatest(ROW, Box((0,) * 3, (9,) * 3), goal=(2, 2, 2)), (5, 3, 2))
        self.assertEqual(least(ROW, Box((0,) * 3, (9,) * 3), goal=(2, 2, 2)), (2, 0, 0))
        self.assertEqual(greatest(ROW, FULL, (2, 1, 0), goal=(2, 1, 1)), (2, 2, 1))
        self.assertEqual(least(ROW, FULL, (2, 1, 0), goal=(2, 1, 1)), (2, 0, 0))

    def test_several_starts(self):
        self.assertEqual(greatest(ROW, FULL, (2, 1, 0), (2, 1, 1)), (2, 2, 2))
        self.assertEqual(least(ROW, FULL, (2, 1, 0), (2, 1, 1)), (1, 1, 1))
        starts = [(2, 1, 0), (5, 5, 5)]
        self.no_state(Question(ROW, FULL, *starts), greatest, ROW, FULL, *starts)

    def test_the_start_itself_is_chosen(self):
        for net in (ROW, RING, TWO, Pipeline(3)):
            for start in ((2, 1, 0), (0, 9, 4), (900, 3, 999)):
                for call in (greatest, least, nearest):
                    self.assertEqual(call(net, Box.exactly(start), start), start)
                self.assertEqual(nearest(net, FULL, start), start)
                self.assertIsNone(why_none(net, Box.exactly(start), start))

    def test_small_nets(self):
        chance = random.Random(71)
        empty = 0
        for _ in range(400):
            question = random_question(chance)
            chosen = question.chosen()
            if chosen:
                high = tuple([max(counters) for counters in zip(*chosen)])
                low = tuple([min(counters) for counters in zip(*chosen)])
                self.assertIn(high, chosen)
                self.assertIn(low, chosen)
                self.assertEqual(question.ask(greatest), high)
                self.assertEqual(question.ask(least), low)
                self.assertIsNone(question.ask(why_none))
            else:
                empty += 1
                self.assert_valid(question, question.ask(why_none))
                self.no_state(question, question.ask, greatest)
                self.no_state(question, question.ask, least)
        self.assertGreater(empty, 100)
        self.assertLess(empty, 300)

    def test_nearest_states_of_small_nets(self):
        chance = random.Random(72)
        found = 0
        while found < 150:
            asked = random_question(chance)
            if not asked.starts:
                continue
            start = asked.starts[0]
            question = Question(asked.net, asked.box, start, goal=asked.goal)
            chosen = question.chosen()
            args = (question.net, question.box, start)
            if not chosen:
                self.no_state(question, nearest, *args, goal=question.goal)
                continue
            found += 1
            state = nearest(*args, goal=question.goal)
            self.assertIn(state, chosen)
            for stage, counter in enumerate(state):
                least_way = min(abs(other[stage] - start[stage]) for other in chosen)
                self.assertEqual(abs(counter - start[stage]), least_way)
            if question.goal is not None:
                costs = [distance(question.net, start, other) + distance(question.net, other, question.goal)
                         for other in chosen]
                self.assertEqual(distance(question.net, start, state) + distance(question.net, state, question.goal),
                                 min(costs))

    def test_all_pairs_of_chosen_states(self):
        chance = random.Random(73)
        for _ in range(40):
            chosen = random_question(chance, most=2).chosen()
            for one, other in itertools.combinations(chosen, 2):
                self.assertIn(tuple(map(max, one, other)), chosen)
                self.assertIn(tuple(map(min, one, other)), chosen)


class TestErrors(LatticeCase):
    """Points 26 and 28: which errors are raised, and in which order."""

    def calls(self, net, box, *starts, **named):
        """All five functions with these arguments, as far as they take them."""
        found = [lambda: greatest(net, box, *starts, **named), lambda: least(net, box, *starts, **named),
                 lambda: why_none(net, box, *starts, **named),
                 lambda: is_certificate(net, None, box, *starts, **named),
                 lambda: is_certificate(net, (("window", 0, None), (), ("window", 0, None)), box, *starts, **named)]
        if len(starts) == 1 and "clean" not in named:
            found.append(lambda: nearest(net, box, *starts, **named))
        return found

    def all_fail(self, error, attributes, *args, **named):
        for call in self.calls(*args, **named):
            self.fails(error, attributes, call)

    def test_a_box_with_another_number_of_windows(self):
        for many in (1, 2, 4, 40):
            for net in (ROW, RING):
                for starts in ((), ((2, 1, 0),), (None,), ((2, 1, 0), None)):
                    for goal in (None, (1, 1, 1), "goal"):
                        self.all_fail(InvalidBox, {"position": None}, net, Box.full(many), *starts, goal=goal)

    def test_the_starts_in_their_order(self):
        for net in (ROW, RING):
            self.all_fail(InvalidState, {"position": None}, net, FULL, None, goal="goal")
            self.all_fail(InvalidState, {"position": 1}, net, FULL, (0, True, -1), goal=(1, 1, 1))
            self.all_fail(InvalidState, {"position": 2}, net, FULL, (2, 1, 0), (2, 1, 1000), (-1, 0, 0), goal=None)
            self.all_fail(InvalidState, {"position": None}, net, FULL, (2, 1, 0), (2, 1), (-1, 0, 0), clean=True)

    def test_the_goal_behind_the_starts(self):
        for net in (ROW, RING):
            for starts in ((), ((2, 1, 0),), ((2, 1, 0), (2, 1, 1))):
                self.all_fail(InvalidState, {"position": None}, net, FULL, *starts, goal=(1, 1))
                self.all_fail(InvalidState, {"position": None}, net, FULL, *starts, goal=False)
                self.all_fail(InvalidState, {"position": None}, net, FULL, *starts, goal=())
                self.all_fail(InvalidState, {"position": 1}, net, FULL, *starts, goal=(1, True, -1), clean=True)

    def test_a_goal_for_a_ring(self):
        empty = Box((5, 5, 5), (4, 4, 4))
        for starts in ((), ((2, 1, 0),), ((2, 1, 0), (2, 1, 1))):
            for box in (FULL, empty):
                self.all_fail(InvalidNet, {"reason": "ring", "position": None}, RING, box, *starts, goal=(1, 1, 1))
                self.all_fail(InvalidNet, {"reason": "ring", "position": None}, RING, box, *starts, goal=(0, 0, 0),
                              clean=True)

    def test_no_goal_for_a_ring(self):
        for call in self.calls(RING, FULL, (2, 1, 0), goal=None):
            call()

    def test_nearest_takes_exactly_one_start(self):
        self.assertRaises(TypeError, nearest, ROW, FULL)
        self.assertRaises(TypeError, nearest, ROW, FULL, (2, 1, 0), (2, 1, 0))
        self.assertRaises(TypeError, nearest, ROW, FULL, (2, 1, 0), clean=False)


OPEN = Box((0, 0, 0), (9, 9, 9))
JAM = (5, 0, 0)


def low(stage, counter):
    return OPEN.narrowed(stage, low=counter)


def high(stage, counter):
    return OPEN.narrowed(stage, high=counter)


# A question, a top, steps and a bottom, and whether they are a valid certificate.
CERTIFICATES = (
    # Tops.
    (Question(TWO, Box((0, 3, 0), (9, 2, 9))), ("window", 1, None), (), ("window", 1, None), True),
    (Question(TWO, Box((0, 2, 0), (9, 2, 9))), ("window", 1, None), (), ("window", 1, None), False),
    (Question(TWO, Box((0, 3, 0), (9, 2, 9))), ("window", 0, None), (), ("window", 1, None), False),
    (Question(TWO, low(0, 2), (1, 0, 0)), ("source", 0, 0), (), ("window", 0, None), True),
    (Question(TWO, low(0, 1), (1, 0, 0)), ("source", 0, 0), (), ("window", 0, None), False),
    (Question(TWO, low(1, 2), (1, 0, 0)), ("source", 1, 0), (), ("window", 1, None), False),
    (Question(TWO, low(0, 2), (3, 0, 0), (1, 0, 0)), ("source", 0, 1), (), ("window", 0, None), True),
    (Question(TWO, low(0, 2), (3, 0, 0), (1, 0, 0)), ("source", 0, 0), (), ("window", 0, None), False),
    (Question(Pipeline(3), low(1, 2), (1, 1, 1)), ("source", 1, 0), (), ("window", 1, None), True),
    (Question(TWO, low(1, 1), JAM), ("jammed", 0, 0), (), ("window", 1, None), True),
    (Question(TWO, low(1, 1), (2, 0, 0)), ("jammed", 0, 0), (), ("window", 1, None), False),
    (Question(TWO, low(2, 1), JAM), ("jammed", 1, 0), (), ("window", 2, None), False),
    (Question(TWO, low(0, 1), JAM), ("jammed", 0, 0), (), ("window", 0, None), False),
    (Question(RING, low(1, 3), (2, 1, 0)), ("range", 1, 0), (), ("window", 1, None), True),
    (Question(RING, low(1, 2), (2, 1, 0)), ("range", 1, 0), (), ("window", 1, None), False),
    (Question(TWO, low(1, 3), (2, 1, 0)), ("range", 1, 0), (), ("window", 1, None), False),
    (Question(TWO, low(2, 3), goal=(2, 2, 2)), ("goal sink", 2, None), (), ("window", 2, None), True),
    (Question(TWO, low(2, 2), goal=(2, 2, 2)), ("goal sink", 2, None), (), ("window", 2, None), False),
    (Question(TWO, low(1, 3), goal=(2, 2, 2)), ("goal sink", 1, None), (), ("window", 1, None), False),
    (Question(TWO, low(2, 3)), ("goal sink", 2, None), (), ("window", 2, None), False),
    (Question(TWO, low(0, 1), goal=(0, 3, 3)), ("goal owing", 0, None), (), ("window", 0, None), True),
    (Question(TWO, low(0, 1), goal=(0, 0, 3)), ("goal owing", 0, None), (), ("window", 0, None), False),
    (Question(TWO, low(1, 4), goal=(0, 3, 3)), ("goal owing", 0, None), (), ("window", 1, None), False),
    (Question(TWO, low(0, 1), (0, 3, 3)), ("goal owing", 0, None), (), ("window", 0, None), False),
    # What bounds from below only is no top, and the other way round.
    (Question(TWO, low(2, 3), (2, 2, 2)), ("sink", 2, 0), (), ("window", 2, None), False),
    (Question(TWO, low(0, 3), goal=(2, 2, 2)), ("goal source", 0, None), (), ("window", 0, None), False),
    (Question(TWO, high(0, 0), (1, 1, 1)), ("window", 0, None), (), ("source", 0, 0), False),
    (Question(TWO, high(2, 0), goal=(1, 1, 1)), ("window", 2, None), (), ("goal sink", 2, None), False),
    # Bottoms.
    (Question(TWO, high(2, 1), (2, 2, 2)), ("window", 2, None), (), ("sink", 2, 0), True),
    (Question(TWO, high(2, 2), (2, 2, 2)), ("window", 2, None), (), ("sink", 2, 0), False),
    (Question(TWO, high(1, 1), (2, 2, 2)), ("window", 1, None), (), ("sink", 1, 0), False),
    (Question(TWO, high(2, 1), (1, 1, 1), (2, 2, 2)), ("window", 2, None), (), ("sink", 2, 1), True),
    (Question(Pipeline(3), high(0, 1), (2, 2, 2)), ("window", 0, None), (), ("sink", 0, 0), True),
    (Question(TWO, high(0, 4), JAM), ("window", 0, None), (), ("jammed", 0, 0), True),
    (Question(TWO, high(0, 5), JAM), ("window", 0, None), (), ("jammed", 0, 0), False),
    (Question(TWO, high(0, 1), (2, 0, 0)), ("window", 0, None), (), ("jammed", 0, 0), False),
    (Question(TWO, high(1, 0), (5, 1, 0)), ("window", 1, None), (), ("jammed", 0, 0), False),
    (Question(RING, high(1, 0), (2, 1, 1)), ("window", 1, None), (), ("range", 1, 0), True),
    (Question(RING, high(1, 1), (2, 1, 1)), ("window", 1, None), (), ("range", 1, 0), False),
    (Question(TWO, high(1, 0), (2, 1, 1)), ("window", 1, None), (), ("range", 1, 0), False),
    (Question(TWO, high(0, 2), goal=(3, 3, 3)), ("window", 0, None), (), ("goal source", 0, None), True),
    (Question(TWO, high(0, 3), goal=(3, 3, 3)), ("window", 0, None), (), ("goal source", 0, None), False),
    (Question(TWO, high(1, 2), goal=(3, 3, 3)), ("window", 1, None), (), ("goal source", 1, None), False),
    (Question(TWO, high(0, 2), (3, 3, 3)), ("window", 0, None), (), ("goal source", 0, None), False),
    (Question(TWO, high(1, 2), goal=(0, 3, 3)), ("window", 1, None), (), ("goal owing", 0, None), True),
    (Question(TWO, high(1, 3), goal=(0, 3, 3)), ("window", 1, None), (), ("goal owing", 0, None), False),
    (Question(TWO, high(2, 2), goal=(0, 3, 3)), ("window", 2, None), (), ("goal owing", 1, None), False),
    (Question(TWO, high(1, 2), (0, 3, 3)), ("window", 1, None), (), ("goal owing", 0, None), False),
    # Steps along a start: below the producer's counter, at it and above it.
    (Question(TWO, Box((0, 1, 0), (0, 9, 9)), (1, 3, 0)), ("window", 0, None), ((0, 0),), ("window", 1, None), True),
    (Question(TWO, Box((0, 3, 0), (1, 9, 9)), (1, 3, 0)), ("window", 0, None), ((0, 0),), ("window", 1, None), False),
    (Question(TWO, Box((0, 4, 0), (1, 9, 9)), (1, 3, 0)), ("window", 0, None), ((0, 0),), ("window", 1, None), True),
    (Question(TWO, Box((0, 5, 0), (4, 9, 9)), (1, 3, 0)), ("window", 0, None), ((0, 0),), ("window", 1, None), True),
    (Question(TWO, Box((0, 4, 0), (4, 9, 9)), (1, 3, 0)), ("window", 0, None), ((0, 0),), ("window", 1, None), False),
    (Question(TWO, Box((0, 0, 2), (1, 9, 9)), (2, 1, 0)),
     ("window", 0, None), ((0, 0), (1, 0)), ("window", 2, None), True),
    (Question(TWO, Box((0, 0, 2), (1, 9, 9)), (2, 1, 0)),
     ("window", 0, None), ((1, 0), (0, 0)), ("window", 2, None), False),
    (Question(TWO, Box((0, 0, 2), (1, 9, 9)), (2, 1, 0)), ("window", 0, None), ((0, 0),), ("window", 2, None), False),
    (Question(TWO, Box((0, 0, 2), (1, 9, 9)), (2, 1, 0)), ("window", 0, None), ((1, 0),), ("window", 2, None), False),
    (Question(TWO, Box((0, 2, 0), (1, 9, 9)), (5, 0, 0)), ("window", 0, None), ((0, 0),), ("window", 1, None), False),
    (Question(TWO, Box((0, 2, 0), (1, 9, 9)), (5, 0, 0), (2, 1, 0)),
     ("window", 0, None), ((0, 1),), ("window", 1, None), True),
    (Question(TWO, Box((2, 0, 0), (9, 1, 9)), (2, 1, 0)), ("window", 1, None), ((0, 0),), ("window", 0, None), False),
    (Question(RING, Box((0, 2, 0), (9, 9, 1)), (2, 1, 2)),
     ("window", 2, None), ((2, 0), (0, 0)), ("window", 1, None), True),
    # Steps between clean states.
    (Question(TWO, Box((0, 2, 0), (1, 9, 9)), clean=True),
     ("window", 0, None), ((0, "clean"),), ("window", 1, None), True),
    (Question(TWO, Box((0, 2, 0), (2, 9, 9)), clean=True),
     ("window", 0, None), ((0, "clean"),), ("window", 1, None), False),
    (Question(TWO, Box((0, 2, 0), (1, 9, 9))), ("window", 0, None), ((0, "clean"),), ("window", 1, None), False),
    (Question(RING, Box((2, 0, 0), (9, 9, 1)), clean=True),
     ("window", 2, None), ((2, "clean"),), ("window", 0, None), True),
    (Question(TWO, Box((0, 2, 0), (1, 9, 9)), JAM, clean=True),
     ("window", 0, None), ((0, "clean"),), ("window", 1, None), True),
    # Steps towards a goal: below the consumer's counter, at it and above it.
    (Question(TWO, Box((3, 0, 0), (9, 0, 9)), goal=(3, 1, 1)),
     ("window", 1, None), ((0, "goal"),), ("window", 0, None), True),
    (Question(TWO, Box((2, 0, 0), (9, 0, 9)), goal=(3, 1, 1)),
     ("window", 1, None), ((0, "goal"),), ("window", 0, None), False),
    (Question(TWO, Box((5, 0, 0), (9, 1, 9)), goal=(5, 1, 1)),
     ("window", 1, None), ((0, "goal"),), ("window", 0, None), False),
    (Question(TWO, Box((6, 0, 0), (9, 1, 9)), goal=(5, 1, 1)),
     ("window", 1, None), ((0, "goal"),), ("window", 0, None), True),
    (Question(TWO, Box((7, 0, 0), (9, 4, 9)), goal=(5, 1, 1)),
     ("window", 1, None), ((0, "goal"),), ("window", 0, None), True),
    (Question(TWO, Box((6, 0, 0), (9, 4, 9)), goal=(5, 1, 1)),
     ("window", 1, None), ((0, "goal"),), ("window", 0, None), False),
    (Question(TWO, Box((3, 0, 0), (9, 0, 9)), (3, 1, 1)),
     ("window", 1, None), ((0, "goal"),), ("window", 0, None), False),
    (Question(TWO, Box((0, 9, 0), (0, 9, 9)), goal=(3, 1, 1)),
     ("window", 0, None), ((0, "goal"),), ("window", 1, None), False),
    (Question(TWO, Box((9, 0, 0), (9, 9, 0)), goal=(9, 9, 9)), ("window", 2, None), ((1, "goal"), (0, "goal")),
     ("window", 0, None), True),
)


class TestCertificates(LatticeCase):
    """Points 30 and 31."""

    def test_each_kind_of_top_step_and_bottom(self):
        for question, top, steps, bottom, valid in CERTIFICATES:
            certificate = (top, steps, bottom)
            with self.subTest(certificate=certificate, lows=question.box.lows, highs=question.box.highs):
                self.assertIs(question.is_valid(certificate), valid)
                self.assertIs(question.check(certificate), valid)
                if valid:
                    self.assertEqual(question.chosen(), [])
                    self.no_state(question, question.ask, greatest)
                    self.no_state(question, question.ask, least)
                    self.assert_valid(question, question.ask(why_none))

    def test_all_short_certificates_of_small_nets(self):
        chance = random.Random(74)
        for _ in range(25):
            question = random_question(chance, most=2)
            steps = question.all_steps()
            rows = [row for many in range(3) for row in itertools.product(steps, repeat=many)]
            rows = chance.sample(rows, min(len(rows), 60))
            valid = 0
            for top, row, bottom in itertools.product(question.tops, rows, question.bottoms):
                good = question.is_valid((top, row, bottom))
                self.assertIs(question.check((top, row, bottom)), good)
                valid += good
            if valid:
                self.assertEqual(question.chosen(), [])

    def test_all_marks_of_small_nets(self):
        # The same mark at both ends tells whether it bounds at all.
        chance = random.Random(75)
        reasons = ("window", "source", "sink", "jammed", "range", "goal sink", "goal source", "goal owing")
        for _ in range(40):
            asked = random_question(chance)
            net, starts, goal = asked.net, asked.starts, asked.goal
            for above in (True, False):
                marks = asked.marks(above)
                whiches = [None, *range(len(starts) + 1), -1, True, "0"]
                for mark in itertools.product(reasons, range(max(net.stages, len(net.channels)) + 1), whiches):
                    known = mark in marks and mark[2] is not True
                    stage, bound = marks[mark] if known else (0, 0)
                    # A window that is as wide as it can be but for the one bound.
                    if above and bound < 999:
                        box = Box.full(net.stages).narrowed(stage, low=bound + 1)
                        other = (mark, (), ("window", stage, None))
                    elif not above and bound > 0:
                        box = Box.full(net.stages).narrowed(stage, high=bound - 1)
                        other = (("window", stage, None), (), mark)
                    else:
                        continue
                    if mark[0] != "window":
                        question = Question(net, box, *starts, goal=goal)
                        self.assertIs(question.check(other), known, mark)

    def test_values_of_any_kind(self):
        question = Question(TWO, Box((0, 0, 2), (9, 9, 9)), (1, 0, 0))
        top, steps, bottom = ("source", 0, 0), ((0, 0), (1, 0)), ("window", 2, None)
        self.assertIs(question.check((top, steps, bottom)), True)
        anything = (None, True, 0, 1, "", "window", b"", (), [], {}, set(), (None,) * 3, ((), (), ()), ROW, FULL,
                    int, 1.0, float("nan"), 10 ** 5000, (top, steps, bottom), [top, list(steps), bottom])
        for certificate in (SAME, (SAME, steps, bottom), (top, SAME, bottom), (top, steps, SAME), (SAME, SAME, SAME),
                            ((SAME, 0, 0), steps, bottom), (("source", SAME, 0), steps, bottom),
                            (("source", 0, SAME), steps, bottom), (top, steps, (SAME, 2, None)),
                            (top, steps, ("window", SAME, None)), (top, steps, ("window", 2, SAME)),
                            (top, (SAME, (1, 0)), bottom), (top, ((SAME, 0), (1, 0)), bottom),
                            (top, ((0, SAME), (1, 0)), bottom)):
            self.assertIs(question.check(certificate), False)
        for value in anything:
            if value != (top, steps, bottom):
                self.assertIs(question.check(value), False)
            for certificate in ((value, steps, bottom), (top, value, bottom), (top, steps, value),
                                (top, (value, *steps), bottom), (top, (*steps, value), bottom),
                                (top, (steps[0], value), bottom), (top, steps, bottom, value)):
                self.assertIs(question.check(certificate), False)
            for changed in ((value, 0, 0), ("source", value, 0), ("source", 0, value)):
                good = changed == top and True not in [item is True or item is False for item in changed]
                self.assertIs(question.check((changed, steps, bottom)), good)
            for changed in ((value, 2, None), ("window", value, None), ("window", 2, value)):
                good = changed == bottom and type(value) is not bool
                self.assertIs(question.check((top, steps, changed)), good)
            for changed in ((value, 0), (1, value)):
                good = changed == (1, 0) and type(value) is int
                self.assertIs(question.check((top, (steps[0], changed), bottom)), good)
        for value in NEVER_NUMBERS:
            if value != 0:
                self.assertIs(question.check((("source", value, 0), steps, bottom)), False)
                self.assertIs(question.check((("source", 0, value), steps, bottom)), False)
                self.assertIs(question.check((top, ((value, 0), (1, 0)), bottom)), False)
                self.assertIs(question.check((top, ((0, value), (1, 0)), bottom)), False)
                if value is not None:
                    self.assertIs(question.check((top, steps, ("window", 2, value))), False)

    def test_lists_and_other_lengths(self):
        question = Question(TWO, Box((0, 0, 2), (9, 9, 9)), (1, 0, 0))
        top, steps, bottom = ("source", 0, 0), ((0, 0), (1, 0)), ("window", 2, None)
        for certificate in ([top, steps, bottom], (list(top), steps, bottom), (top, list(steps), bottom),
                            (top, steps, list(bottom)), (top, ([0, 0], (1, 0)), bottom), (top, steps), (top, bottom),
                            (top, steps, bottom, ()), ((*top, 0), steps, bottom), (top[:2], steps, bottom),
                            (top, steps, bottom[:2]), (top, ((0, 0, 0), (1, 0)), bottom), (top, ((0,), (1, 0)), bottom),
                            (bottom, steps, top), (top, steps[::-1], bottom)):
            self.assertIs(question.check(certificate), False)

    def test_true_and_false_are_no_numbers(self):
        question = Question(TWO, Box((0, 0, 2), (9, 9, 9)), (1, 0, 0), (1, 0, 0))
        top, steps, bottom = ("source", 0, 1), ((0, 0), (1, 1)), ("window", 2, None)
        self.assertIs(question.check((top, steps, bottom)), True)
        for certificate in ((("source", False, 1), steps, bottom), (("source", 0, True), steps, bottom),
                            (("source", 0, False), steps, bottom), (top, ((False, 0), (1, 1)), bottom),
                            (top, ((0, False), (1, 1)), bottom), (top, ((0, 0), (True, 1)), bottom),
                            (top, ((0, 0), (1, True)), bottom), (top, steps, ("window", 2, False))):
            self.assertIs(question.check(certificate), False)
        question = Question(TWO, low(1, 3).narrowed(1, high=2))
        self.assertIs(question.check((("window", 1, None), (), ("window", 1, None))), True)
        self.assertIs(question.check((("window", True, None), (), ("window", 1, None))), False)
        self.assertIs(question.check((("window", 1, None), (), ("window", True, None))), False)

    def test_rules_that_are_no_rules(self):
        question = Question(TWO, Box((0, 2, 0), (1, 9, 9)), (2, 1, 0), clean=True)
        for rule, good in ((0, True), ("clean", True), ("goal", False), (1, False), (-1, False), ("Clean", False),
                           ("0", False), (None, False), (0.0, False), ((0,), False), ("", False)):
            certificate = (("window", 0, None), ((0, rule),), ("window", 1, None))
            self.assertIs(question.check(certificate), good)
        for channel in (1, 2, -1, -2, None, False, "0", 0.0, 10 ** 5000):
            self.assertIs(question.check((("window", 0, None), ((channel, 0),), ("window", 1, None))), False)

    def test_a_long_way_round(self):
        net = Ring(*[1] * 40)
        box = Box((0,) * 39 + (6,), (5,) + (999,) * 39)
        start = (9,) * 40
        steps = tuple([(channel, 0) for channel in range(39)])
        around = tuple([(channel, 0) for channel in range(40)])
        for many in (0, 1, 5, 100):
            certificate = (("window", 0, None), around * many + steps, ("window", 39, None))
            self.assertIs(self.quick(is_certificate, net, certificate, box, start), True)
            certificate = (("window", 0, None), around * many, ("window", 39, None))
            self.assertIs(self.quick(is_certificate, net, certificate, box, start), False)


class TestWork(LatticeCase):

    def questions(self):
        """Questions about nets of 40 stages with 120 channels and counters up to 999."""
        chance = random.Random(76)
        row = tuple(range(999, 959, -1))
        wild = tuple([chance.randint(0, 999) for _ in range(40)])
        full = Box.full(40)
        for net in (long_net(), long_net(capacity=1), Ring(*[999] * 40), Ring(*[1] * 40)):
            for start in (row, wild, row[::-1], tuple([counter // 2 for counter in wild])):
                near = [tuple([max(0, counter - chance.randint(0, 3)) for counter in start]) for _ in range(9)]
                goal = None if net.is_ring() else tuple([counter // 2 for counter in start])
                yield Question(net, full, start)
                yield Question(net, full, start, *near)
                yield Question(net, full.narrowed(20, low=700), start, *near, clean=True)
                yield Question(net, full.narrowed(5, high=700), start, goal=goal)
                yield Question(net, full, goal=goal, clean=True)

    def test_large_nets(self):
        for question in self.questions():
            certificate = self.quick(question.ask, why_none)
            if certificate is None:
                high, low = self.quick(question.ask, greatest), self.quick(question.ask, least)
                for state in (high, low):
                    self.assertIn(state, question.box)
                    self.assertTrue(all(reaches(question.net, start, state) for start in question.starts))
                    self.assertTrue(question.goal is None or reaches(question.net, state, question.goal))
                    self.assertTrue(is_clean(question.net, state) or not question.clean)
                self.assertTrue(all(a <= b for a, b in zip(low, high)))
            else:
                self.assert_valid(question, certificate)
                self.no_state(question, self.quick, question.ask, greatest)
                self.no_state(question, self.quick, question.ask, least)
            if len(question.starts) == 1 and certificate is None and not question.clean:
                args = (question.net, question.box, *question.starts)
                self.assertIn(self.quick(nearest, *args, goal=question.goal), question.box)


class TestWholeProgram(LatticeCase):
    """Point 2, for chosen states."""

    def test_nothing_passed_is_changed_and_equal_calls_are_equal(self):
        for _ in range(2):
            net, box = Pipeline.row(2, 1), FULL.narrowed(2, low=1)
            self.assertEqual(greatest(net, box, (2, 1, 0)), (2, 2, 2))
            self.assertEqual(nearest(net, box, (2, 1, 0), goal=(2, 1, 1)), (2, 1, 1))
            empty = Box((5, 0, 0), (9, 9, 9))
            self.assertEqual(why_none(net, empty, (2, 1, 0)), why_none(ROW, Box((5, 0, 0), (9, 9, 9)), (2, 1, 0)))
            self.assertEqual((net, box), (ROW, FULL.narrowed(2, low=1)))

    def test_kinds_of_results(self):
        for state in (greatest(ROW, FULL), least(ROW, FULL), nearest(ROW, FULL, (2, 1, 0))):
            self.assertIs(type(state), tuple)
            self.assertTrue(all(type(counter) is int for counter in state))
        self.assertIs(type(why_none(ROW, Box((5, 0, 0), (9, 9, 9)), (2, 1, 0))), tuple)
