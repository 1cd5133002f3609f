"""withincall/sightings.py: point 24 of the document."""

import itertools
import random

from tests.common import Case, long_net, random_state, search, small_net
from withincall.errors import InvalidState, Unreachable
from withincall.nets import Pipeline, Ring
from withincall.sightings import first_break, longest_story, story_cost

ROW = Pipeline.row(2, 1)
CALLS = (first_break, longest_story, story_cost)


class TestDocumentExample(Case):

    def test_all_three(self):
        found = [first_break(ROW, (2, 1, 0), (2, 2, 2), (2, 1, 1)),
                 longest_story(ROW, (2, 1, 0), (2, 2, 2), (2, 1, 1), (2, 2, 2)),
                 story_cost(ROW, (2, 1, 0), (2, 1, 1), (2, 2, 2))]
        self.assertEqual(found, [2, (0, 1, 3), 3])


class TestFewSightings(Case):

    def test_none(self):
        for net in (ROW, Pipeline(1), Ring(1, 1, 1)):
            self.assertIsNone(first_break(net))
            self.assertEqual(longest_story(net), ())
            self.assertEqual(story_cost(net), 0)

    def test_one(self):
        for net, state in ((ROW, (0, 9, 0)), (Pipeline(1), (5,)), (Ring(1, 1, 1), (1, 2, 3))):
            self.assertIsNone(first_break(net, state))
            self.assertEqual(longest_story(net, state), (0,))
            self.assertEqual(story_cost(net, state), 0)

    def test_the_same_one_again(self):
        for many in (2, 3, 60):
            states = [(2, 1, 0)] * many
            self.assertIsNone(first_break(ROW, *states))
            self.assertEqual(longest_story(ROW, *states), tuple(range(many)))
            self.assertEqual(story_cost(ROW, *states), 0)

    def test_two(self):
        self.assertIsNone(first_break(ROW, (2, 1, 0), (2, 2, 2)))
        self.assertEqual(longest_story(ROW, (2, 1, 0), (2, 2, 2)), (0, 1))
        self.assertEqual(story_cost(ROW, (2, 1, 0), (2, 2, 2)), 3)
        self.assertEqual(first_break(ROW, (2, 2, 2), (2, 1, 0)), 1)
        self.assertEqual(longest_story(ROW, (2, 2, 2), (2, 1, 0)), (0,))
        self.fails(Unreachable, {"objection": ("sink", 2)}, story_cost, ROW, (2, 2, 2), (2, 1, 0))


class TestBreaks(Case):

    def test_the_first_of_several_breaks(self):
        states = [(2, 1, 0), (2, 2, 0), (2, 2, 1), (3, 2, 1), (3, 1, 0)]
        self.assertEqual(first_break(ROW, *states), 2)
        self.fails(Unreachable, {"objection": ("jammed", 1)}, story_cost, ROW, *states)
        self.assertEqual(first_break(ROW, *states[2:]), 1)
        self.fails(Unreachable, {"objection": ("source", 0)}, story_cost, ROW, *states[2:])

    def test_the_first_objection_in_ascending_order(self):
        self.fails(Unreachable, {"objection": ("orphan", 0)}, story_cost, ROW, (1, 1, 1), (1, 1, 1), (2, 3, 0))

    def test_sightings_are_compared_with_the_one_before(self):
        # The third is reached from the first, but not from the second.
        states = [(2, 1, 0), (1, 1, 0), (2, 2, 2)]
        self.assertEqual(first_break(ROW, *states), 2)
        self.assertEqual(longest_story(ROW, *states), (0, 1))
        # Neither of the first two is a part of the longest story.
        states = [(0, 0, 0), (1, 1, 1), (3, 1, 1), (3, 2, 1), (3, 2, 2)]
        self.assertEqual(longest_story(ROW, *states), (2, 3, 4))


class TestStories(Case):

    def test_several_longest_stories(self):
        away, here, there = (5, 5, 5), (2, 1, 0), (2, 1, 1)
        self.assertEqual(longest_story(ROW, away, here, away), (0, 2))
        self.assertEqual(longest_story(ROW, here, away, there, away), (0, 2))
        self.assertEqual(longest_story(ROW, away, here, away, there), (0, 2))
        self.assertEqual(longest_story(ROW, there, away, here), (0,))
        self.assertEqual(longest_story(ROW, here, there, away, there, away), (0, 1, 3))

    def test_the_first_longest_one_does_not_take_the_nearest_state(self):
        # From (2, 2, 0) on, stage 2 can never advance again.
        states = [(2, 1, 0), (2, 2, 0), (2, 1, 1), (2, 2, 1), (2, 2, 2)]
        self.assertEqual(longest_story(ROW, *states), (0, 2, 3, 4))

    def test_many_sightings_of_small_nets(self):
        chance = random.Random(51)
        for _ in range(150):
            net = small_net(chance)
            states = [random_state(chance, net, 2) for _ in range(chance.randint(0, 7))]
            if states and chance.random() < 0.5:
                states = [chance.choice(sorted(search(net, states[0]))) for _ in states]
            reached = {state: search(net, state) for state in states}

            def agree(row):
                return all(states[later] in reached[states[at]] for at, later in zip(row, row[1:]))

            breaks = [at for at in range(1, len(states)) if not agree((at - 1, at))]
            self.assertEqual(first_break(net, *states), breaks[0] if breaks else None)
            rows = [row for many in range(len(states) + 1)
                    for row in itertools.combinations(range(len(states)), many) if agree(row)]
            longest = max(len(row) for row in rows)
            self.assertEqual(longest_story(net, *states), min(row for row in rows if len(row) == longest))
            if breaks:
                self.assertRaises(Unreachable, story_cost, net, *states)
            else:
                cost = sum(reached[a][b] for a, b in zip(states, states[1:]))
                self.assertEqual(story_cost(net, *states), cost)


class TestErrors(Case):

    def test_the_first_sighting_that_is_no_state(self):
        for call in CALLS:
            for bad, position in ((None, None), ((1, 2), None), ((0, 0, 1000), 2), ((True, 0, -1), 0)):
                self.fails(InvalidState, {"position": position}, call, ROW, bad)
                self.fails(InvalidState, {"position": position}, call, ROW, (2, 1, 0), bad, (1, -1, 0), None)

    def test_states_come_before_a_break(self):
        for call in CALLS:
            self.fails(InvalidState, {"position": 1}, call, ROW, (2, 1, 0), (9, 1, 0), (9, 1000, 0))


class TestWork(Case):

    def test_sixty_sightings_of_a_large_net(self):
        net = long_net()
        first = tuple([999] + [900] * 39)
        states = [tuple([999] + [900 + at] * 39) for at in range(60)]
        self.assertEqual(states[0], first)
        self.assertIsNone(self.quick(first_break, net, *states))
        self.assertEqual(self.quick(longest_story, net, *states), tuple(range(60)))
        self.assertEqual(self.quick(story_cost, net, *states), 39 * 59)
        states = states[::-1]
        self.assertEqual(self.quick(first_break, net, *states), 1)
        self.assertEqual(self.quick(longest_story, net, *states), (0,))

    def test_large_costs(self):
        net = Pipeline.row(999, 999, 999)
        states = [(999, 0, 0, 0), (999, 999, 0, 0), (999, 0, 0, 0), (999, 999, 999, 999)]
        self.assertEqual(first_break(net, *states), None)
        self.assertEqual(story_cost(net, *states), 999 * 5)


class TestWholeProgram(Case):
    """Point 2, for sightings."""

    def test_nothing_passed_is_changed_and_equal_calls_are_equal(self):
        states = [(2, 1, 0), (2, 2, 2), (2, 1, 1), (2, 2, 2)]
        for _ in range(2):
            net = Pipeline.row(2, 1)
            self.assertEqual(longest_story(net, *states), (0, 1, 3))
            self.assertEqual(first_break(net, *states), 2)
            self.assertEqual(net, ROW)
        self.assertEqual(states, [(2, 1, 0), (2, 2, 2), (2, 1, 1), (2, 2, 2)])
