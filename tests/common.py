"""What the tests share."""

import random
import unittest

from withincall.nets import Pipeline, Ring

# None of these is a stage, a channel or an item, whatever the net. Numbers that are too great
# are tested where the number of stages or channels is known.
NEVER_NUMBERS = (-1, -2, True, False, None, "0", "", 0.0, 1.0, (0,), [0], b"0", 10 ** 5000)


class Case(unittest.TestCase):
    """A test case that can ask for an error with its attributes."""

    def fails(self, error, attributes, call, *args, **named):
        """The call raises exactly this error, with exactly these attributes and values."""
        with self.assertRaises(error) as caught:
            call(*args, **named)
        self.assertIs(caught.exception.__class__, error)
        found = vars(caught.exception)
        self.assertEqual(found, attributes)
        for name, value in attributes.items():
            self.assertIs(type(found[name]), type(value), name)


def random_pipeline(chance):
    """A pipeline of at most nine stages, its channels in no order and partly as pairs."""
    stages = chance.randint(1, 9)
    order = chance.sample(range(stages), stages)
    channels = []
    for later in range(stages):
        for earlier in range(later):
            if chance.random() < 0.4:
                ends = (order[earlier], order[later])
                channels.append(ends if chance.random() < 0.3 else (*ends, chance.randint(1, 4)))
    chance.shuffle(channels)
    return Pipeline(stages, *channels, capacity=chance.randint(1, 4))


def random_ring(chance):
    """A ring of at most nine stages."""
    return Ring(*[chance.randint(1, 4) for _ in range(chance.randint(3, 9))])


def random_nets():
    """Pipelines and rings, the same ones at each call."""
    chance = random.Random(7)
    return [random_ring(chance) if k % 4 == 0 else random_pipeline(chance) for k in range(200)]


def random_state(chance, net, most=6):
    """A state of the net with counters up to the given one."""
    return tuple([chance.randint(0, most) for _ in range(net.stages)])
