"""What the tests share."""

import itertools
import random
import time
import unittest

from withincall.boxes import Box
from withincall.errors import NoState
from withincall.lattice import nearest
from withincall.nets import Pipeline, Ring

# None of these is a stage, a channel or an item, whatever the net. Numbers that are too great
# are tested where the number of stages or channels is known.
NEVER_NUMBERS = (-1, -2, True, False, None, "0", "", 0.0, 1.0, (0,), [0], b"0", 10 ** 5000)



class Same:
    """An object that is equal to everything, and yet is no stage, no word and no row."""

    def __eq__(self, other):
        return True


SAME = Same()
# No move of any net.
NEVER_MOVES = (
    None, True, 0, "advance", "+0", b"+0", (), (0,), ("advance",), (0, "advance", 1), (0, "advance", "done"),
    [0, "advance"], {0: "advance"}, ("advance", 0), (0, 0), (0, None), (0, True), (0, ("advance",)),
    (0, ["advance"]), (0, "Advance"), (0, "advance "), (0, "advanc"), (0, ""), (0, "roll back"),
    (0, b"advance"), (0, "done"), (True, "advance"), (False, "rollback"), (None, "advance"),
    ("0", "advance"), (0.0, "advance"), ((0,), "advance"), ([0], "advance"), (-1, "advance"),
    (-1, "rollback"), (10 ** 5000, "advance"), ((0, "advance"),), ((0, "advance"), (0, "advance")),
    SAME, (SAME, "advance"), (0, SAME), (SAME, SAME))
KINDS = ("advance", "rollback")


class Case(unittest.TestCase):
    """A test case that can ask for an error with its attributes."""

    def quick(self, call, *args, **named):
        """The result of the call, which must take a few seconds at most, even on a slow machine."""
        begun = time.process_time()
        result = call(*args, **named)
        self.assertLess(time.process_time() - begun, 5)
        return result

    def fails(self, error, attributes, call, *args, **named):
        """The call raises exactly this error, with exactly these attributes and values."""
        with self.assertRaises(error) as caught:
            call(*args, **named)
        self.assertIs(caught.exception.__class__, error)
        found = vars(caught.exception)
        self.assertEqual(found, attributes)
        for name, value in attributes.items():
            self.assertIs(type(found[name]), type(value), name)


def random_pipeline(chance):
    """A pipeline of at most nine stages, its channels in no order and partly as pairs."""
    stages = chance.randint(1, 9)
    order = chance.sample(range(stages), stages)
    channels = []
    for later in range(stages):
        for earlier in range(later):
            if chance.random() < 0.4:
                ends = (order[earlier], order[later])
                channels.append(ends if chance.random() < 0.3 else (*ends, chance.randint(1, 4)))
    chance.shuffle(channels)
    return Pipeline(stages, *channels, capacity=chance.randint(1, 4))


def random_ring(chance):
    """A ring of at most nine stages."""
    return Ring(*[chance.randint(1, 4) for _ in range(chance.randint(3, 9))])


def random_nets():
    """Pipelines and rings, the same ones at each call."""
    chance = random.Random(7)
    return [random_ring(chance) if k % 4 == 0 else random_pipeline(chance) for k in range(200)]


def random_state(chance, net, most=6):
    """A state of the net with counters up to the given one."""
    return tuple([chance.randint(0, most) for _ in range(net.stages)])


def small_net(chance):
    """A net that is so small that all states with small counters can be gone through."""
    if chance.random() < 0.35:
        return Ring(*[chance.randint(1, 3) for _ in range(chance.choice((3, 3, 4)))])
    stages = chance.randint(1, 4)
    order = chance.sample(range(stages), stages)
    pairs = [(order[low], order[high]) for high in range(stages) for low in range(high)]
    chosen = [pair for pair in pairs if chance.random() < 0.65]
    return Pipeline(stages, *[(*pair, chance.randint(1, 3)) for pair in chosen])


def all_states(net, most):
    """All states of the net with counters up to the given one, in ascending order."""
    return list(itertools.product(range(most + 1), repeat=net.stages))


def moves_of(net):
    """All moves of the net in ascending order."""
    return [(stage, kind) for stage in range(net.stages) for kind in KINDS]


def may_be_made(net, state, move):
    """Whether the move is allowed, by the words of point 12."""
    stage, kind = move
    end = 1 if kind == "advance" else 0
    side = [channel for channel in net.channels if channel[end] == stage]
    return side != [] and all(1 <= state[a] - state[b] <= capacity for a, b, capacity in side)


def behind(state, move):
    """The state behind the move."""
    counters = list(state)
    counters[move[0]] += 1 if move[1] == "advance" else -1
    return tuple(counters)


def search(net, start):
    """All states to which runs from the start lead, with their distances."""
    found = {start: 0}
    waiting = [start]
    for state in waiting:
        for move in moves_of(net):
            if may_be_made(net, state, move):
                after = behind(state, move)
                if after not in found:
                    found[after] = found[state] + 1
                    waiting.append(after)
    return found


def lively_case(chance, most):
    """A small net and a start, and the search from it: of several nets the one in which most states are reached."""
    cases = []
    for _ in range(6):
        net = small_net(chance)
        start = random_state(chance, net, most)
        cases.append((net, start, search(net, start)))
    return max(cases, key=lambda case: min(len(case[2]), 400))


def rough_case(chance, most, *capacities):
    """A net of up to seven stages, and a start with counters up to the given one that is mostly not clean."""
    stages = chance.randint(3, 7)
    channels = [(low, high, chance.choice(capacities)) for high in range(stages)
                for low in range(high) if low + 1 == high or chance.random() < 0.3]
    slope = [most - stage * most // stages for stage in range(stages)]
    start = [min(most, max(0, counter + chance.randint(-most // 2, most // 2))) for counter in slope]
    return Pipeline(stages, *channels), tuple(start)


def nearest_within(net, start, stage, windows):
    """The distance and the nearest reached state in which the loads of some channels of the stage lie in their windows.

    All counters of the stage are gone through, with a box for each of them.
    """
    found = []
    for counter in range(max(start) + 1):
        box = Box.full(net.stages).narrowed(stage, low=counter, high=counter)
        for channel, (low, high) in windows.items():
            producer, consumer, _ = net.channels[channel]
            if stage == consumer:
                lows, highs, other = counter + low, counter + high, producer
            else:
                lows, highs, other = counter - high, counter - low, consumer
            box = box.narrowed(other, low=min(999, max(0, lows)), high=max(0, min(999, highs)))
            if lows > 999 or highs < 0:
                box = box.narrowed(other, low=1, high=0)
        try:
            state = nearest(net, box, start)
        except NoState:
            continue
        found.append((sum(abs(a - b) for a, b in zip(start, state)), state))
    return min(found, default=None)


def long_net(many=120, capacity=999):
    """A pipeline of 40 stages in a row, with more channels beside the row."""
    row = [(stage, stage + 1) for stage in range(39)]
    others = [(stage, stage + gap) for gap in range(2, 40) for stage in range(40 - gap)]
    channels = row + others[:many - len(row)]
    return Pipeline(40, *channels, capacity=capacity)
