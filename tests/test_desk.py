"""The desk: point [26]."""

import unittest

from evenblocks.alike import alike
from evenblocks.days import days_of, fault_of_days
from evenblocks.desk import Desk
from evenblocks.errors import (NoBlock, NoLine, NoName, NoPlan, NoPlane, NoPrime, NoSize, NoTriples, NoTurning, TooMany,
                               Unlike)
from evenblocks.nets import net
from evenblocks.planes import closed, flat
from evenblocks.rests import rolled, square_bases
from evenblocks.spaces import sheets, space
from evenblocks.squares import many_squares
from evenblocks.triples import triples
from evenblocks.turning import beside, moved, others, swapped, within, without
from tests.samples import refusal_of

WRONG_NAMES = ("", "A", "aB", "abcdefghi", "a1", "a.b", "-", "0", "a-b", "a_b", "a,", "{", "`")
WRONG_NUMBERS = ("", "-", "-1", "+1", "01", "00", "007", "1234567", "1000000", "x", "1.2", "1,", "0x1", "a")
WRONG_LISTS = ("", ".", "0.", ".0", "0..1", "0.01", "00.1", "0.1234567", "0,1", "a", "0.a", "-1", "0.-1", "0.-", "1-2")


def written(blocks):
    """Blocks as the desk writes them."""
    return " ".join(".".join(map(str, block)) or "-" for block in blocks) or "nothing"


def read(text):
    """The blocks that the desk wrote."""
    if text == "nothing":
        return []
    return [() if word == "-" else tuple(map(int, word.split("."))) for word in text.split(" ")]


class AtDesk(unittest.TestCase):
    def setUp(self):
        self.desk = Desk()

    def say(self, line):
        answer = self.desk.say(line)
        self.assertIs(answer.__class__, str)
        return answer

    def says(self, line, answer):
        self.assertEqual(self.say(line), answer, line)

    def refused(self, line, due):
        self.assertIs(refusal_of(self.desk.say, line), due, line)

    def no_name(self, line, name):
        with self.assertRaises(ValueError) as caught:
            self.desk.say(line)
        self.assertIs(caught.exception.__class__, NoName, line)
        self.assertEqual(caught.exception.name, name)

    def keeps(self, making, plan):
        """The making gives the plan."""
        self.says(f"keep told {making}", f"{plan[0]} {len(plan[1])}")
        self.says("blocks told", written(plan[1]))


class Makings(AtDesk):
    def test_of_numbers(self):
        for many in (3, 7, 9, 13, 51):
            self.keeps(f"triples {many}", triples(many))
        for order in (2, 3, 4, 13):
            self.keeps(f"flat {order}", flat(order))
            self.keeps(f"closed {order}", closed(order))
        for order, deep in ((2, 2), (2, 3), (3, 3), (8, 2), (2, 5)):
            self.keeps(f"space {order} {deep}", space(order, deep))
            self.keeps(f"sheets {order} {deep}", sheets(order, deep))
        for prime in (5, 7, 11, 13, 199):
            self.keeps(f"squares {prime}", rolled(prime, square_bases(prime)))

    def test_of_numbers_refused(self):
        for line, due in (("triples 5", NoTriples), ("triples 0", NoTriples), ("triples 999999", NoTriples),
                          ("flat 6", NoPlane), ("flat 16", NoPlane), ("closed 1", NoPlane), ("closed 999999", NoPlane),
                          ("space 2 7", NoPlane), ("space 6 2", NoPlane), ("space 9 2", NoPlane), ("space 2 1", NoPlane),
                          ("sheets 2 7", NoPlane), ("sheets 0 0", NoPlane), ("squares 3", NoPrime),
                          ("squares 9", NoPrime), ("squares 211", NoPrime)):
            self.refused(f"keep a {line}", due)

    def test_rests(self):
        self.keeps("rests 7 0.1.3", rolled(7, [(0, 1, 3)]))
        self.keeps("rests 2 0", rolled(2, [(0,)]))
        self.keeps("rests 13 0.1.4 0.2.7", rolled(13, [(0, 1, 4), (0, 2, 7)]))
        self.keeps("rests 4 1.3 1.3 3", rolled(4, [(1, 3), (1, 3), (3,)]))
        self.keeps("rests 200 0.199", rolled(200, [(0, 199)]))

    def test_what_are_no_rests(self):
        for line in ("rests", "rests 7", "rests 1 0", "rests 0 0", "rests 201 0", "rests 999999 0", "rests 7 7",
                     "rests 7 0.7", "rests 7 1.0", "rests 7 1.1", "rests 7 -", "rests 7 0.1 -", "rests 7 0.1 2.1",
                     "rests 7 0.1.3 9", "rests 7 0.1 ", "rests 7  0.1", "rests 0.1 7", "rests x 0"):
            self.refused(f"keep a {line}", NoLine)
        for word in WRONG_LISTS:
            self.refused(f"keep a rests 7 {word}", NoLine)
            self.refused(f"keep a rests 7 0.1 {word}", NoLine)
        for word in WRONG_NUMBERS:
            self.refused(f"keep a rests {word} 0", NoLine)

    def test_net(self):
        for size in range(2, 15):
            squares = many_squares(size)
            for few in sorted({0, 1, len(squares)}):
                self.keeps(f"net {size} {few}", net(size, squares[:few]))
            self.refused(f"keep a net {size} {len(squares) + 1}", NoSize)
            self.refused(f"keep a net {size} 999999", NoSize)
        for size in (0, 1, 15, 16, 30, 31, 999999):
            for few in (0, 1, 2, 999999):
                self.refused(f"keep a net {size} {few}", NoSize)

    def test_of_kept_ones(self):
        seven, eight, mixed = closed(2), sheets(2, 3), (4, [(2, 3), (0,), (), (0, 1, 2, 3), (0,)])
        self.say("keep seven closed 2")
        self.say("keep eight sheets 2 3")
        self.say("keep mixed plan 4 2.3 0 - 0.1.2.3 0")
        for name, plan in (("seven", seven), ("eight", eight), ("mixed", mixed)):
            self.keeps(f"others {name}", others(plan))
            self.keeps(f"swapped {name}", swapped(plan))
            self.keeps(f"beside {name} {name}", beside(plan, plan))
            self.keeps(f"within {name} 0", within(plan, 0))
            self.keeps(f"without {name} 1", without(plan, 1))
            self.keeps(f"without {name} {len(plan[1]) - 1}", without(plan, len(plan[1]) - 1))
        self.keeps("moved mixed 3.1.0.2", moved(mixed, [3, 1, 0, 2]))
        self.keeps("moved seven 1.2.3.4.5.6.0", moved(seven, [1, 2, 3, 4, 5, 6, 0]))
        self.say("keep one plan 1")
        self.keeps("moved one 0", (1, []))
        self.say("keep more moved seven 1.2.3.4.5.6.0")
        self.keeps("beside more seven", beside(moved(seven, [1, 2, 3, 4, 5, 6, 0]), seven))

    def test_of_kept_ones_refused(self):
        self.say("keep seven closed 2")
        self.say("keep mixed plan 4 2.3 0 - 0.1.2.3 0")
        self.say("keep none plan 4")
        for line, due in (("swapped none", NoBlock), ("beside seven mixed", Unlike), ("within seven 7", NoBlock),
                          ("without seven 999999", NoBlock), ("within mixed 2", NoBlock), ("without mixed 3", NoBlock),
                          ("within none 0", NoBlock), ("moved mixed 0.1.2", NoTurning), ("moved mixed 0.1.2.2", NoTurning),
                          ("moved mixed 0.1.2.3.4", NoTurning), ("moved mixed 1.2.3.4", NoTurning),
                          ("moved mixed 0.1.2.999999", NoTurning)):
            self.refused(f"keep a {line}", due)

    def test_plan(self):
        self.keeps("plan 3", (3, []))
        self.keeps("plan 1 -", (1, [()]))
        self.keeps("plan 3 2 0.1 - 2 0.1.2", (3, [(2,), (0, 1), (), (2,), (0, 1, 2)]))
        self.keeps("plan 200 0.199 5", (200, [(0, 199), (5,)]))

    def test_no_plan(self):
        for line, place in (("plan 0", -1), ("plan 0 -", -1), ("plan 0 5", -1), ("plan 3 3", 0), ("plan 3 0 - 1.0", 2),
                            ("plan 3 0.0", 0), ("plan 3 - 0.999999", 1), ("plan 3 0.1 2.1 7", 1)):
            with self.assertRaises(ValueError) as caught:
                self.desk.say(f"keep a {line}")
            self.assertIs(caught.exception.__class__, NoPlan)
            self.assertEqual(caught.exception.place, place)

    def test_what_is_no_line_of_a_plan(self):
        for line in ("plan", "plan 201", "plan 201 0", "plan 999999", "plan 3 ", "plan 3  0", "plan - 0", "plan 0.1"):
            self.refused(f"keep a {line}", NoLine)
        for word in WRONG_LISTS:
            self.refused(f"keep a plan 3 {word}", NoLine)
            self.refused(f"keep a plan 3 0 {word} 1", NoLine)
        for word in WRONG_NUMBERS:
            self.refused(f"keep a plan {word}", NoLine)
            self.refused(f"keep a plan {word} 0", NoLine)
        self.refused("keep a plan 0 --", NoLine)


class Questions(AtDesk):
    def test_even(self):
        for making, answer in (("closed 2", "even 7 7 3 3 1"), ("triples 99", "even 99 1617 49 3 1"),
                               ("plan 1 0", "uneven few"), ("plan 5", "uneven few"), ("plan 3 0.1 2 0.1", "uneven small 1"),
                               ("plan 3 0.1 0.1.2 -", "uneven small 2"), ("plan 3 0.1 0.1.2", "uneven sizes 1"),
                               ("plan 3 0.1", "uneven pairs 0 2 0 1"), ("plan 2 0.1", "even 2 1 1 2 1"),
                               ("plan 4 0.1 2.3 2.3", "uneven pairs 0 2 0 1"), ("plan 3 1.2 1.2", "uneven pairs 1 2 2 0")):
            self.say(f"keep a {making}")
            self.says("even a", answer)

    def test_blocks(self):
        for making, answer in (("plan 3", "nothing"), ("plan 3 -", "-"), ("plan 3 0.2 - 1", "0.2 - 1"),
                               ("triples 3", "0.1.2"), ("flat 2", "0.1 0.2 0.3 1.2 1.3 2.3"),
                               ("plan 200 0.100.199", "0.100.199")):
            self.say(f"keep a {making}")
            self.says("blocks a", answer)

    def test_alike(self):
        self.say("keep a closed 2")
        self.say("keep b rests 7 0.1.3")
        self.say("keep c rests 7 0.1.2")
        self.say("keep d plan 3 0 0.1")
        self.say("keep e plan 3 0.2 2")
        self.says("alike d e", "alike 2.0.1")
        self.says("alike e d", "alike 1.2.0")
        self.says("alike a c", "unlike")
        self.says("alike a d", "unlike")
        word, turning = self.say("alike a b").split(" ")
        self.assertEqual(word, "alike")
        turning = [int(number) for number in turning.split(".")]
        self.assertEqual(turning, alike(closed(2), rolled(7, [(0, 1, 3)]))[1])
        self.assertEqual(moved(closed(2), turning), rolled(7, [(0, 1, 3)]))
        self.say("keep f plan 1")
        self.says("alike f f", "alike 0")

    def test_days(self):
        for making in ("flat 2", "flat 3", "sheets 2 3", "plan 3 0.1.2 0.1 2", "plan 3 0.1.2 - 0.1 2 -"):
            self.say(f"keep a {making}")
            plan = (int(self.say(f"keep a {making}").split(" ")[0]), read(self.say("blocks a")))
            days = [read(day) for day in self.say("days a").split(" / ")]
            self.assertEqual(days, days_of(plan))
            self.assertIs(fault_of_days(plan, days), None)
        for making, answer in (("plan 3", "nothing"), ("plan 3 -", "none"), ("plan 3 0.1", "none"), ("closed 2", "none"),
                               ("plan 2 0.1", "0.1"), ("plan 1 0 0", "0 / 0"), ("plan 2 0.1 0.1", "0.1 / 0.1")):
            self.say(f"keep a {making}")
            self.says("days a", answer)

    def test_drop(self):
        self.say("keep a flat 2")
        self.say("keep b flat 3")
        self.says("drop a", "gone")
        self.no_name("drop a", "a")
        self.no_name("even a", "a")
        self.says("even b", "even 9 12 4 3 1")
        self.says("keep a flat 4", "16 20")
        self.says("drop a", "gone")
        self.says("drop b", "gone")
        self.no_name("blocks b", "b")


class Names(AtDesk):
    def test_names_that_are_words(self):
        words = ("keep", "triples", "flat", "closed", "space", "sheets", "squares", "rests", "net", "others", "swapped",
                 "beside", "within", "without", "moved", "plan", "even", "blocks", "alike", "days", "drop", "nothing",
                 "none", "gone", "a", "z", "abcdefgh", "zzzzzzzz")
        for number, word in enumerate(words, start=1):
            self.says(f"keep {word} plan {number}", f"{number} 0")
        for number, word in enumerate(words, start=1):
            self.says(f"keep other others {word}", f"{number} 0")
            self.says(f"blocks {word}", "nothing")
            self.says(f"drop {word}", "gone")
            self.no_name(f"even {word}", word)

    def test_kept_anew(self):
        self.says("keep a flat 2", "4 6")
        self.says("keep a flat 3", "9 12")
        self.says("even a", "even 9 12 4 3 1")
        self.says("keep a others a", "9 12")
        self.says("even a", "even 9 12 8 6 5")
        self.says("keep a beside a a", "9 24")
        self.says("even a", "even 9 24 16 6 10")

    def test_what_is_made_of_a_kept_one_stays(self):
        self.say("keep a plan 3 0.1 2")
        self.say("keep b beside a a")
        self.say("keep c moved a 0.1.2")
        self.say("keep a plan 5")
        self.says("blocks b", "0.1 0.1 2 2")
        self.says("drop a", "gone")
        self.says("blocks c", "0.1 2")

    def test_two_desks(self):
        other = Desk()
        self.say("keep a flat 2")
        self.assertIs(refusal_of(other.say, "blocks a"), NoName)
        self.assertEqual(other.say("keep a flat 3"), "9 12")
        self.says("even a", "even 4 6 3 2 1")

    def test_the_first_name_that_nothing_is_kept_by(self):
        self.say("keep a plan 3")
        for line, name in (("even b", "b"), ("blocks b", "b"), ("days b", "b"), ("drop b", "b"), ("alike b c", "b"),
                           ("alike a c", "c"), ("alike b a", "b"), ("keep b others b", "b"), ("keep b swapped c", "c"),
                           ("keep b beside c d", "c"), ("keep b beside a b", "b"), ("keep b beside d a", "d"),
                           ("keep b within c 0", "c"), ("keep b without c 999999", "c"), ("keep b moved c 0.0", "c"),
                           ("keep x beside abcdefgh z", "abcdefgh")):
            self.no_name(line, name)

    def test_argument(self):
        self.assertEqual(self.desk.say(line="keep a plan 1"), "1 0")


class NoLines(AtDesk):
    def setUp(self):
        super().setUp()
        self.say("keep a plan 3 0.1")
        self.say("keep b plan 3 0.2")

    def test_lines_of_no_form(self):
        for line in ("", " ", "  ", "keep", "keep ", "keep a", "keep a ", "keep a keep", "keep a plans 3", "Keep a plan 3",
                     "keep a Plan 3", "keep a drop b", "keep a even b", "plan 3", "triples 7", "others a", "even", "even ",
                     "even a b", "even a ", " even a", "even  a", "evens a", "uneven a", "blocks", "blocks a a", "alike a",
                     "alike", "alike a b a", "alike a  b", "alike a b ", "days", "days a b", "drop", "drop a b", "drop a ",
                     "even\ta", "even a\n", "\neven a", "keep a plan 3\n", "a", "0", "-", "nothing", "forget a",
                     "keep a triples", "keep a triples 7 7", "keep a flat", "keep a flat 2 3", "keep a closed 2 ",
                     "keep a closed  2", "keep a space 2", "keep a space 2 3 4", "keep a sheets 2", "keep a sheets",
                     "keep a squares", "keep a squares 7 7", "keep a net 3", "keep a net", "keep a net 3 1 1",
                     "keep a others", "keep a others a b", "keep a swapped", "keep a swapped a a", "keep a beside a",
                     "keep a beside a b a", "keep a within a", "keep a within a 0 0", "keep a within 0 a",
                     "keep a without a", "keep a without", "keep a moved a", "keep a moved a 0.1.2 0",
                     "keep a moved a 0 1 2", "keep a moved a -", "keep a moved 0.1.2 a", "keep a triples 7 ",
                     " keep a triples 7", "keep  a triples 7", "keep a  triples 7", "keep a b triples 7"):
            self.refused(line, NoLine)
        self.says("blocks a", "0.1")

    def test_what_is_no_name(self):
        for name in WRONG_NAMES:
            for line in (f"keep {name} plan 3", f"keep c others {name}", f"keep c swapped {name}", f"keep c beside {name} a",
                         f"keep c beside a {name}", f"keep c within {name} 0", f"keep c without {name} 0",
                         f"keep c moved {name} 0.1.2", f"even {name}", f"blocks {name}", f"alike {name} a",
                         f"alike a {name}", f"days {name}", f"drop {name}"):
                self.refused(line, NoLine)

    def test_what_is_no_number(self):
        for word in WRONG_NUMBERS:
            for line in ("triples {}", "flat {}", "closed {}", "space {} 2", "space 2 {}", "sheets {} 2", "sheets 2 {}",
                         "squares {}", "net {} 0", "net 3 {}", "within a {}", "without a {}"):
                self.refused(f"keep c {line.format(word)}", NoLine)

    def test_what_is_no_turning_as_written(self):
        for word in WRONG_LISTS + ("-",):
            self.refused(f"keep c moved a {word}", NoLine)


class Order(AtDesk):
    def test_no_line_is_told_ahead_of_no_name(self):
        for line in ("keep a within x -1", "keep a moved x 0..1", "alike x Y", "keep a beside x 1", "keep A others x",
                     "keep a others x y", "even x y", "keep a without x 01", "drop x x"):
            self.refused(line, NoLine)

    def test_no_name_is_told_ahead_of_what_functions_refuse(self):
        self.say("keep a plan 3")
        self.no_name("keep b within x 999999", "x")
        self.no_name("keep b moved x 5.5.5", "x")
        self.no_name("keep b swapped x", "x")

    def test_no_line_is_told_ahead_of_what_functions_refuse(self):
        for line in ("keep A triples 5", "keep a triples 5 5", "keep a plan 0 01", "keep a plan 3 5 x", "keep a net 99 x",
                     "keep a space 99", "keep abcdefghi flat 6"):
            self.refused(line, NoLine)

    def test_too_many_is_told_behind_all_else(self):
        self.refused("keep a plan 3 " + " ".join(["0"] * 2000 + ["5"]), NoPlan)
        self.refused("keep a plan 0 " + " ".join(["-"] * 2001), NoPlan)
        self.refused("keep a plan 3 " + " ".join(["0"] * 2001 + ["01"]), NoLine)
        self.refused("keep a rests 200 " + " ".join(["0"] * 11 + ["200"]), NoLine)
        self.say("keep many plan 3 " + " ".join(["-"] * 2000))
        self.say("keep four plan 4 " + " ".join(["-"] * 2000))
        self.refused("keep a beside many four", Unlike)
        self.no_name("keep a beside many five", "five")
        self.no_name("alike many five", "five")
        self.refused("alike many", NoLine)
        self.refused("days many many", NoLine)

    def test_what_is_refused_changes_nothing(self):
        self.say("keep a plan 3 0.1")
        self.say("keep b plan 2 0.1 -")
        for line in ("keep a triples 5", "keep a flat 6", "keep a others x", "keep a within a 5", "keep a without a -1",
                     "keep a moved a 0.1.1", "keep a beside a b", "keep a plan 3 5", "keep a plan 201", "keep a space 2 6",
                     "keep a rests 200 " + " ".join(["0"] * 11), "keep a", "drop c", "drop a b", "drop A", "alike a",
                     "keep c plan 0", "keep c triples 5", "keep c space 2 6", "keep a net 6 2", "keep a swapped c"):
            self.assertIsNot(refusal_of(self.desk.say, line), None, line)
            self.says("blocks a", "0.1")
            self.says("blocks b", "0.1 -")
            self.no_name("blocks c", "c")


class Bounds(AtDesk):
    def test_things_of_a_plan(self):
        self.says("keep a plan 200", "200 0")
        self.refused("keep a plan 201", NoLine)

    def test_blocks_of_a_plan(self):
        self.says("keep a plan 2 " + " ".join(["0"] * 2000), "2 2000")
        self.refused("keep a plan 2 " + " ".join(["0"] * 2001), TooMany)
        self.refused("keep b beside a a", TooMany)
        self.says("keep b plan 2 0", "2 1")
        self.refused("keep b beside a b", TooMany)
        self.says("keep b plan 2", "2 0")
        self.says("keep b beside a b", "2 2000")
        self.says("keep b others a", "2 2000")
        self.says("keep b within a 1999", "1 1999")

    def test_rests(self):
        self.says("keep a rests 2 0", "2 2")
        self.says("keep a rests 200 " + " ".join(["0"] * 10), "200 2000")
        self.refused("keep a rests 200 " + " ".join(["0"] * 11), TooMany)
        self.refused("keep a rests 199 " + " ".join(["0"] * 11), TooMany)
        self.refused("keep a rests 1 0", NoLine)
        self.refused("keep a rests 201 0", NoLine)

    def test_things_of_swapped(self):
        self.say("keep a plan 2 " + " ".join(["0"] * 200))
        self.says("keep b swapped a", "200 2")
        self.say("keep a plan 2 " + " ".join(["0"] * 201))
        self.refused("keep b swapped a", TooMany)
        self.says("keep b plan 200 0", "200 1")
        self.says("keep b swapped b", "1 200")

    def test_makings(self):
        self.refused("keep a space 2 6", TooMany)
        self.says("keep a space 2 5", "32 496")
        self.says("keep a sheets 2 6", "64 126")
        self.says("keep a closed 13", "183 183")
        self.says("keep a net 14 1", "196 42")
        self.says("keep a net 13 12", "169 182")
        self.says("keep a triples 99", "99 1617")
        self.says("keep a squares 197", "197 394")
        self.says("keep a squares 199", "199 199")

    def test_alike(self):
        self.says("keep a plan 9 " + " ".join(["0.1"] * 24), "9 24")
        self.says("keep b plan 9 " + " ".join(["7.8"] * 24), "9 24")
        self.assertEqual(self.say("alike a b")[:6], "alike ")
        self.say("keep c plan 9 " + " ".join(["0.1"] * 25))
        self.say("keep d plan 10")
        self.say("keep e plan 1")
        for other in "cd":
            for one in "abe":
                self.refused(f"alike {one} {other}", TooMany)
                self.refused(f"alike {other} {one}", TooMany)
            self.refused(f"alike {other} {other}", TooMany)
        self.says("alike a e", "unlike")

    def test_days(self):
        self.say("keep a plan 16 " + " ".join(["0.1.2.3.4.5.6.7.8.9.10.11.12.13.14.15"] * 16))
        self.assertEqual(len(self.say("days a").split(" / ")), 16)
        self.say("keep a plan 17 0.1.2.3.4.5.6.7.8.9.10.11.12.13.14.15.16")
        self.refused("days a", TooMany)
        self.say("keep a plan 2 " + " ".join(["0.1"] * 17))
        self.refused("days a", TooMany)
        self.say("keep a plan 2 " + " ".join(["-"] * 17))
        self.refused("days a", TooMany)
        self.say("keep a plan 17")
        self.refused("days a", TooMany)
        self.say("keep a plan 16")
        self.says("days a", "nothing")


if __name__ == "__main__":
    unittest.main()
