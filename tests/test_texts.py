"""withincall/texts.py: points 16 to 18 of the document."""

import random

from tests.common import NEVER_MOVES, Case, long_net, moves_of, random_nets, random_state
from withincall.errors import InvalidMove, InvalidState, InvalidText
from withincall.nets import Pipeline, Ring
from withincall.states import conditions, loads
from withincall.texts import (
    channel_table, read_moves, read_net, read_state, write_moves, write_net, write_state)

ROW = Pipeline.row(2, 1)
# Written forms of no number: signs, leading zeros, blanks, other bases, other characters.
NO_NUMBERS = ("", "+1", "-1", "-0", "+0", "00", "01", "001", "0001", "1.", "1.0", "1e0", "0x1", "1_0", "a",
              "one", "1a", "a1", "'1'", "1,", " 1", "1 ", "^1", "9" * 5000, "0" * 5000 + "1", "1" + "0" * 5000)


class TextCase(Case):

    def bad_text(self, line, call, *args):
        self.fails(InvalidText, {"line": line}, call, *args)

    def bad_net(self, line, text):
        self.bad_text(line, read_net, text)


class TestDocumentExamples(TextCase):

    def test_write(self):
        found = [write_net(ROW), write_moves(ROW, ((2, "advance"), (0, "rollback")))]
        self.assertEqual(found, ["pipeline 3\n0 > 1 : 2\n1 > 2 : 1", "+2 -0"])

    def test_table(self):
        self.assertEqual(
            channel_table(ROW, (1, 3, 0)),
            "counters 1 3 0\n  0   0 > 1     -2 of 2    owing\n  1   1 > 2      3 of 1    jammed")

    def test_read(self):
        self.bad_net(3, "pipeline 3\n1 > 2 : 1\n0 > 1 : 2")


class TestWriting(TextCase):
    """Point 16."""

    def test_nets(self):
        self.assertEqual(write_net(Pipeline(1)), "pipeline 1")
        self.assertEqual(write_net(Pipeline(40, (39, 0, 999))), "pipeline 40\n39 > 0 : 999")
        self.assertEqual(write_net(Pipeline(12, (10, 11), (2, 10, 20), (2, 9))),
                         "pipeline 12\n2 > 9 : 1\n2 > 10 : 20\n10 > 11 : 1")
        self.assertEqual(write_net(Ring(2, 1, 30)), "ring 3\n0 > 1 : 2\n1 > 2 : 1\n2 > 0 : 30")

    def test_states(self):
        self.assertEqual(write_state(ROW, (0, 10, 999)), "0 10 999")
        self.assertEqual(write_state(Pipeline(1), (7,)), "7")
        self.assertEqual(write_state(Ring(1, 1, 1), (1, 2, 3)), "1 2 3")

    def test_no_states(self):
        for call in (write_state, channel_table):
            self.fails(InvalidState, {"position": None}, call, ROW, (0, 0))
            self.fails(InvalidState, {"position": None}, call, ROW, "0 0 0")
            self.fails(InvalidState, {"position": 1}, call, ROW, (0, True, 1000))
            self.fails(InvalidState, {"position": 2}, call, ROW, (0, 0, 1000))

    def test_moves(self):
        self.assertEqual(write_moves(ROW, ()), "")
        self.assertEqual(write_moves(ROW, ((0, "advance"),)), "+0")
        self.assertEqual(write_moves(Pipeline(40), ((39, "rollback"), (10, "advance"), (39, "rollback"))),
                         "-39 +10 -39")

    def test_moves_are_written_whether_they_are_allowed_or_not(self):
        moves = tuple(moves_of(ROW))
        self.assertEqual(write_moves(ROW, moves), "+0 -0 +1 -1 +2 -2")

    def test_an_item_that_is_no_move(self):
        for value in (*NEVER_MOVES, (3, "advance")):
            self.fails(InvalidMove, {}, write_moves, ROW, (value,))
            self.fails(InvalidMove, {}, write_moves, ROW, ((0, "advance"), (0, "advance"), value))


class TestReadingBack(TextCase):
    """Point 17: what was written is read."""

    def test_nets(self):
        nets = [Pipeline(1), Pipeline(40), Pipeline.row(*range(1, 40)), Ring(1, 2, 3), Ring(*range(960, 1000)),
                long_net(), long_net(capacity=1), *random_nets()]
        for net in nets:
            found = read_net(write_net(net))
            self.assertEqual(found, net)
            self.assertIs(type(found), type(net))

    def test_channels_that_lead_to_smaller_numbers(self):
        self.assertEqual(read_net("pipeline 3\n1 > 0 : 1\n2 > 0 : 5\n2 > 1 : 1"),
                         Pipeline(3, (2, 1), (1, 0), (2, 0, 5)))

    def test_states(self):
        chance = random.Random(31)
        for net in random_nets():
            state = random_state(chance, net, 999)
            self.assertEqual(read_state(net, write_state(net, state)), state)
        self.assertEqual(read_state(ROW, "0 10 999"), (0, 10, 999))
        self.assertEqual(read_state(Pipeline(1), "0"), (0,))

    def test_moves(self):
        chance = random.Random(32)
        for net in [*random_nets(), Pipeline(40)]:
            moves = tuple(chance.choice(moves_of(net)) for _ in range(chance.randint(0, 20)))
            self.assertEqual(read_moves(net, write_moves(net, moves)), moves)
        self.assertEqual(read_moves(ROW, ""), ())
        self.assertEqual(read_moves(ROW, "+2 -0 +2"), ((2, "advance"), (0, "rollback"), (2, "advance")))

    def test_long_rows_of_moves(self):
        moves = tuple(moves_of(Pipeline(40))) * 50
        text = self.quick(write_moves, Pipeline(40), moves)
        self.assertEqual(self.quick(read_moves, Pipeline(40), text), moves)


class TestFirstLine(TextCase):
    """Point 17: line 1 of a net."""

    def test_possible_numbers_of_stages(self):
        for stages in range(1, 41):
            self.assertEqual(read_net(f"pipeline {stages}"), Pipeline(stages))
        for stages in range(3, 41):
            self.bad_net(2, f"ring {stages}")

    def test_impossible_numbers_of_stages(self):
        for stages in (0, 41, 42, 100, 999, 1000, 10 ** 100):
            self.bad_net(1, f"pipeline {stages}")
            self.bad_net(1, f"pipeline {stages}\nnothing")
            self.bad_net(1, f"ring {stages}")
        for stages in (1, 2):
            self.bad_net(1, f"ring {stages}")
            self.bad_net(1, f"ring {stages}\n0 > 1 : 1\n1 > 0 : 1")

    def test_no_numbers(self):
        for word in NO_NUMBERS:
            for kind in ("pipeline", "ring"):
                self.bad_net(1, f"{kind} {word}")
                self.bad_net(1, f"{kind} {word}\n0 > 1 : 1\nnothing")

    def test_other_words(self):
        for text in ("", " ", "3", "net 3", "Pipeline 3", "RING 3", "pipeline", "pipeline ", "pipeline3", "pipe 3",
                     "pipeline  3", " pipeline 3", "pipeline 3 ", "pipeline 3 4", "pipeline 3 :", "ring  3", "rings 3",
                     "pipeline: 3", "3 pipeline", "0 > 1 : 2", "pipelines 3", "pipeline 3pipeline 3"):
            self.bad_net(1, text)
            self.bad_net(1, text + "\n0 > 1 : 1")
        self.bad_net(1, "\npipeline 3")


class TestPipelineLines(TextCase):
    """Point 17: the later lines of a pipeline."""

    def bad_line(self, line):
        """The line is bad, alone, behind good lines and before lines that are bad as well."""
        self.bad_net(2, f"pipeline 5\n{line}")
        self.bad_net(2, f"pipeline 5\n{line}\n3 > 4 : 1")
        self.bad_net(2, f"pipeline 5\n{line}\n{line}\nnothing")
        self.bad_net(4, f"pipeline 5\n0 > 1 : 2\n0 > 2 : 1\n{line}")

    def test_other_forms(self):
        for line in ("", " ", "nothing", "1", "1 > 2", "1 > 2 :", "1 > 2 1", "1 2 : 1", "1 2 1", "> 2 : 1", "1 > : 1",
                     "1 < 2 : 1", "1 > 2 > 1", "1 : 2 > 1", "1 > 2 : 1 :", "1 > 2 : 1 1", "1 > 2 : 1 > 2",
                     "1>2:1", "1> 2 : 1", "1 >2 : 1", "1 > 2: 1", "1 > 2 :1", "(1, 2, 1)", "1 > 2 = 1", "1 >> 2 : 1"):
            self.bad_line(line)

    def test_blanks(self):
        for line in (" 1 > 2 : 1", "1 > 2 : 1 ", "1  > 2 : 1", "1 >  2 : 1", "1 > 2  : 1", "1 > 2 :  1", "  1 > 2 : 1"):
            self.bad_line(line)

    def test_no_numbers(self):
        for word in NO_NUMBERS:
            for line in (f"{word} > 2 : 1", f"1 > {word} : 1", f"1 > 2 : {word}"):
                self.bad_line(line)

    def test_no_channels(self):
        for line in ("1 > 1 : 1", "0 > 0 : 1", "1 > 5 : 1", "5 > 1 : 1", "1 > 40 : 1", "1 > 999 : 1", "1000 > 1 : 1",
                     "1 > 2 : 0", "1 > 2 : 1000", "1 > 2 : 10000", "1 > 2 : 9990", "5 > 5 : 0"):
            self.bad_line(line)
        self.assertEqual(read_net("pipeline 2\n0 > 1 : 999").channels, ((0, 1, 999),))
        self.assertEqual(read_net("pipeline 2\n1 > 0 : 1").channels, ((1, 0, 1),))

    def test_order(self):
        for first, second in (("1 > 2", "0 > 3"), ("1 > 3", "1 > 2"), ("1 > 2", "1 > 2"), ("0 > 2", "0 > 1")):
            for capacity in (1, 2, 999):
                self.bad_net(3, f"pipeline 5\n{first} : 2\n{second} : {capacity}\n4 > 4 : 1")
        # Each line is compared with the one before it, not with the first one.
        self.bad_net(4, "pipeline 5\n0 > 1 : 1\n1 > 3 : 1\n1 > 2 : 1")
        self.bad_net(5, "pipeline 5\n0 > 1 : 1\n1 > 2 : 1\n3 > 4 : 1\n2 > 3 : 1")
        # As texts, 10 would come before 2.
        self.assertEqual(read_net("pipeline 12\n2 > 9 : 1\n2 > 10 : 1\n10 > 11 : 1").channels,
                         ((2, 9, 1), (2, 10, 1), (10, 11, 1)))
        self.bad_net(3, "pipeline 12\n10 > 11 : 1\n2 > 9 : 1")
        self.bad_net(3, "pipeline 12\n2 > 10 : 1\n2 > 9 : 1")

    def test_circles(self):
        self.bad_net(3, "pipeline 3\n0 > 1 : 1\n1 > 0 : 1")
        self.bad_net(4, "pipeline 3\n0 > 1 : 1\n1 > 2 : 1\n2 > 0 : 1")
        self.bad_net(5, "pipeline 6\n0 > 1 : 1\n2 > 3 : 1\n3 > 4 : 1\n4 > 2 : 1\n5 > 4 : 1\nnothing")
        # A bad line before the one that closes the circle counts.
        self.bad_net(3, "pipeline 3\n0 > 1 : 1\n1 > 1 : 1\n2 > 0 : 1")
        row = "\n".join([f"{stage} > {stage + 1} : 1" for stage in range(39)])
        self.bad_net(41, f"pipeline 40\n{row}\n39 > 0 : 1")
        self.bad_net(41, f"pipeline 40\n{row}\n39 > 20 : 1\n39 > 21 : 1")

    def test_the_121st_channel(self):
        text = write_net(long_net())
        self.assertEqual(self.quick(read_net, text), long_net())
        for line in ("39 > 38 : 1", "38 > 39 : 1", "39 > 0 : 1", "nothing", ""):
            self.bad_net(122, f"{text}\n{line}")
        pairs = [(low, high) for low in range(16) for high in range(low + 1, 16)]
        lines = [f"{low} > {high} : 1" for low, high in pairs]
        self.assertEqual(len(read_net("\n".join(["pipeline 18", *lines])).channels), 120)
        self.bad_net(122, "\n".join(["pipeline 18", *lines, "16 > 17 : 1"]))
        self.bad_net(122, "\n".join(["pipeline 18", *lines, "16 > 17 : 1", "nothing"]))
        self.bad_net(121, "\n".join(["pipeline 18", *lines[:119], "16 > 18 : 1", "16 > 17 : 1"]))

    def test_a_newline_at_the_end(self):
        self.bad_net(2, "pipeline 3\n")
        self.bad_net(3, "pipeline 3\n0 > 1 : 1\n")
        self.bad_net(3, "pipeline 3\n0 > 1 : 1\n\n")
        self.bad_net(3, "pipeline 3\n0 > 1 : 1\n\n1 > 2 : 1")


class TestRingLines(TextCase):
    """Point 17: the later lines of a ring."""

    GOOD = ("ring 3", "0 > 1 : 2", "1 > 2 : 999", "2 > 0 : 1")

    def test_a_ring(self):
        self.assertEqual(read_net("\n".join(self.GOOD)), Ring(2, 999, 1))

    def test_missing_channels(self):
        for many in (1, 2, 3):
            self.bad_net(many + 1, "\n".join(self.GOOD[:many]))
        text = write_net(Ring(*[1] * 40)).split("\n")
        for many in range(1, 41):
            self.bad_net(many + 1, "\n".join(text[:many]))

    def test_a_newline_at_the_end(self):
        for many in (1, 2, 3, 4):
            self.bad_net(many + 1, "\n".join(self.GOOD[:many]) + "\n")

    def test_lines_beyond_the_last_channel(self):
        for line in ("0 > 1 : 2", "2 > 0 : 1", "3 > 0 : 1", "2 > 1 : 1", "nothing", ""):
            self.bad_net(5, "\n".join([*self.GOOD, line]))
            self.bad_net(5, "\n".join([*self.GOOD, line, line]))

    def test_lines_that_are_not_due(self):
        lines = ("", "nothing", "0 > 2 : 1", "1 > 0 : 1", "2 > 1 : 1", "0 > 0 : 1", "3 > 0 : 1", "2 > 3 : 1",
                 "0 > 1 : 0", "1 > 2 : 0", "2 > 0 : 1000", " 0 > 1 : 2", "0 > 1 : 2 ", "0 > 01 : 2", "1  > 2 : 1",
                 "2 > 0 :", "2 > 0", "+1 > 2 : 1")
        for line in lines:
            for at in (1, 2, 3):
                self.bad_net(at + 1, "\n".join([*self.GOOD[:at], line, *self.GOOD[at + 1:]]))
        for at in (1, 2, 3):
            for other in (1, 2, 3):
                if at != other:
                    self.bad_net(at + 1, "\n".join([*self.GOOD[:at], self.GOOD[other], *self.GOOD[at + 1:]]))

    def test_no_numbers(self):
        for word in NO_NUMBERS:
            for line in (f"{word} > 2 : 1", f"1 > {word} : 1", f"1 > 2 : {word}"):
                self.bad_net(3, "\n".join([*self.GOOD[:2], line, self.GOOD[3]]))

    def test_the_lines_of_a_ring_are_no_pipeline(self):
        self.bad_net(4, "\n".join(["pipeline 3", *self.GOOD[1:]]))


class TestReadingStatesAndMoves(TextCase):
    """Point 17: states and moves, whose bad line is always 1."""

    def test_no_states(self):
        for text in ("", " ", "0", "0 0", "0 0 0 0", "0  0 0", " 0 0 0", "0 0 0 ", "0 0  0", "0 0 0\n", "\n0 0 0",
                     "0 0\n0", "0\n0\n0", "0,0,0", "(0, 0, 0)", "0 0 1000", "1000 0 0", "0 10000 0", "a b c", "0 0 -1"):
            self.bad_text(1, read_state, ROW, text)
        for word in NO_NUMBERS:
            for text in (f"{word} 0 0", f"0 {word} 0", f"0 0 {word}"):
                self.bad_text(1, read_state, ROW, text)
        self.bad_text(1, read_state, Pipeline(1), "")
        self.bad_text(1, read_state, Pipeline(1), "0 ")

    def test_counters_up_to_999(self):
        self.assertEqual(read_state(ROW, "999 998 0"), (999, 998, 0))
        for digits in ("1000", "1001", "9999", "1" * 4000, "1" * 5000):
            self.bad_text(1, read_state, ROW, f"0 0 {digits}")

    def test_no_moves(self):
        for text in (" ", "+", "-", "0", "+ 0", "+0 ", " +0", "+0  -1", "+0\n", "\n", "\n+0", "+0\n-1", "++0", "+-0",
                     "--1",
                     "+3", "-3", "+40", "+999", "+1000", "0+", "+0-1", "+0,-1", "advance", "a0", "*1", "+1 3", "+1 -3"):
            self.bad_text(1, read_moves, ROW, text)
        for word in NO_NUMBERS:
            for sign in "+-":
                self.bad_text(1, read_moves, ROW, f"{sign}{word}")
                self.bad_text(1, read_moves, ROW, f"+0 {sign}{word} -1")

    def test_stages_of_the_net(self):
        self.assertEqual(read_moves(Pipeline(1), "+0 -0"), ((0, "advance"), (0, "rollback")))
        self.assertEqual(read_moves(Pipeline(40), "+39"), ((39, "advance"),))
        self.bad_text(1, read_moves, Pipeline(40), "+40")
        self.bad_text(1, read_moves, Pipeline(1), "+1")


class TestChannelTable(TextCase):
    """Point 18."""

    def test_no_channels(self):
        self.assertEqual(channel_table(Pipeline(1), (7,)), "counters 7")
        self.assertEqual(channel_table(Pipeline(3), (0, 999, 5)), "counters 0 999 5")

    def test_all_conditions(self):
        net = Pipeline(5, (0, 1, 3), (1, 2, 30), (2, 3, 300), (3, 4, 999))
        self.assertEqual(channel_table(net, (5, 5, 999, 0, 1)), "\n".join([
            "counters 5 5 999 0 1",
            "  0   0 > 1      0 of 3    empty",
            "  1   1 > 2   -994 of 30   owing",
            "  2   2 > 3    999 of 300  jammed",
            "  3   3 > 4     -1 of 999  owing"]))
        self.assertEqual(channel_table(Ring(10, 1, 1), (10, 0, 0)), "\n".join([
            "counters 10 0 0",
            "  0   0 > 1     10 of 10   ready",
            "  1   1 > 2      0 of 1    empty",
            "  2   2 > 0    -10 of 1    owing"]))

    def test_loads_of_every_length(self):
        for low, high, text in ((0, 5, "  -5"), (0, 50, " -50"), (0, 500, "-500"), (5, 0, "   5"), (50, 0, "  50"),
                                (500, 0, " 500"), (3, 3, "   0")):
            line = channel_table(Pipeline.row(999), (low, high)).split("\n")[1]
            word = "owing" if low < high else "empty" if low == high else "ready"
            self.assertEqual(line, f"  0   0 > 1   {text} of 999  {word}")

    def test_numbers_of_one_two_and_three_digits(self):
        net = long_net()
        state = tuple(range(999, 959, -1))
        lines = channel_table(net, state).split("\n")
        self.assertEqual(len(lines), 121)
        self.assertEqual(lines[8], "  7   1 > 5      4 of 999  ready")
        self.assertEqual(lines[11], " 10   2 > 5      3 of 999  ready")
        self.assertEqual(lines[34], " 33   9 > 10     1 of 999  ready")
        self.assertEqual(lines[101], "100  31 > 33     2 of 999  ready")
        self.assertEqual(lines[120], "119  38 > 39     1 of 999  ready")

    def test_many_tables(self):
        chance = random.Random(33)
        for net in random_nets():
            state = random_state(chance, net)
            lines = [f"counters {write_state(net, state)}"]
            for number, (producer, consumer, capacity) in enumerate(net.channels):
                lines.append(str(number).rjust(3) + "  " + str(producer).rjust(2) + " > " + str(consumer).ljust(2)
                             + "  " + str(loads(net, state)[number]).rjust(4) + " of " + str(capacity).ljust(3)
                             + "  " + conditions(net, state)[number])
            self.assertEqual(channel_table(net, state), "\n".join(lines))


class TestWholeProgram(TextCase):
    """Point 2, for texts."""

    def test_equal_calls_give_equal_results(self):
        for _ in range(2):
            net, state, moves = Pipeline.row(2, 1), (1, 3, 0), ((2, "advance"),)
            self.assertEqual(write_net(net), write_net(ROW))
            self.assertEqual(channel_table(net, state), channel_table(ROW, (1, 3, 0)))
            self.assertEqual(read_net(write_net(net)), ROW)
            self.assertEqual(read_moves(net, write_moves(net, moves)), moves)
            self.assertEqual((net, state, moves), (ROW, (1, 3, 0), ((2, "advance"),)))

    def test_kinds_of_results(self):
        for text in (write_net(ROW), write_state(ROW, (1, 3, 0)), write_moves(ROW, ()), channel_table(ROW, (1, 3, 0))):
            self.assertIs(type(text), str)
        self.assertIs(type(read_state(ROW, "1 2 3")), tuple)
        self.assertIs(type(read_moves(ROW, "+1")), tuple)
        self.assertIs(type(read_moves(ROW, "+1")[0]), tuple)
