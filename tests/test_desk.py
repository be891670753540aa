import itertools
import random
import unittest

from askring.allruns import errs
from askring.desk import Desk
from askring.errors import Full, NoDeed, NoName, NoRow, NoTask, RingError
from askring.yards import Yard

FAULTS = ("bell", "counter", "lie", "look", "round")
# Asked and answered once, with everything in the memory.
ONE_ROUND = ("ask 5", "bell 0", "take", "answer 0 6", "bell 1")
# Rows that bring out what a yard has come to, told or refused.
PROBES = ("story", "waits 0", "waits 1", "errs", "look 0", "look 1", "drain 0", "drain 1", "bell 0", "bell 1", "take",
          "collect", "answer 0 5", "answer 1 5", "ask 4", "ask 3", "bell 0", "take", "take", "story", "errs")


class Unlike:
    """Equal to every text, and yet none."""
    def __eq__(self, other):
        return True

    def __hash__(self):
        return hash("collect")

    def split(self, sign):
        return ["collect"]


class DeskCase(unittest.TestCase):
    def desk(self, *rows):
        desk = Desk()
        for row in rows:
            desk.say(row)
        return desk

    def told(self, desk, row):
        try:
            return desk.say(row)
        except RingError as error:
            return type(error)

    def assert_says(self, desk, *pairs):
        for row, wanted in pairs:
            told = desk.say(row)
            self.assertIs(type(told), str)
            self.assertEqual(told, wanted, row)

    def assert_refused(self, refusal, rows, refused):
        """Each of the refused ones behind the rows; the desk then goes on as if it hadn't been said."""
        plain = self.desk(*rows)
        wanted = [self.told(plain, probe) for probe in PROBES]
        for row in refused:
            with self.subTest(rows=rows, refused=row):
                desk = self.desk(*rows)
                for _ in range(2):
                    self.assertRaises(refusal, desk.say, row)
                self.assertEqual([self.told(desk, probe) for probe in PROBES], wanted)


class TellingTest(DeskCase):
    def test_one_round(self):
        self.assert_says(
            self.desk(), ("ring 2 2 3", "ok"), ("ask 5", "0"), ("ask -6", "1"), ("take", "none"), ("drain 0", "ok"),
            ("drain 0", "ok"), ("take", "0 5"), ("take", "none"), ("bell 0", "no"), ("take", "1 -6"),
            ("answer 1 7", "ok"), ("collect", "none"), ("bell 1", "no"), ("collect", "1 7"), ("answer 0 -8", "ok"),
            ("bell 1", "no"), ("collect", "0 -8"), ("collect", "none"))

    def test_bells_lying_down_and_looking(self):
        self.assert_says(
            self.desk("ring 1 2 1"), ("lie 1", "ok"), ("look 1", "no"), ("ask 5", "0"), ("bell 0", "yes"),
            ("drain 1", "ok"), ("bell 0", "no"), ("lie 1", "ok"), ("look 1", "yes"), ("lie 0", "ok"), ("look 0", "no"),
            ("take", "0 5"), ("answer 0 6", "ok"), ("bell 1", "yes"), ("collect", "0 6"), ("lie 0", "ok"),
            ("bell 1", "yes"), ("look 0", "no"))

    def test_names_and_worths_at_the_bounds(self):
        desk = self.desk("ring 8 4 9")
        self.assert_says(desk, *[("ask 1000000000", str(name)) for name in range(8)])
        self.assert_says(desk, ("bell 0", "no"), ("take", "0 1000000000"), ("answer 0 -1000000000", "ok"),
                         ("bell 1", "no"), ("collect", "0 -1000000000"), ("ask 0", "0"), ("waits 0", "3"))

    def test_none_and_none(self):
        desk = self.desk("ring 1 2 1 counter", "ask 5", "drain 0")
        self.assert_says(desk, ("take", "none none"), ("story", "2"), ("errs", "yes"))
        desk = self.desk("ring 1 2 1 counter", "ask 5", "bell 0", "take", "answer 0 6", "drain 1", "drain 1")
        self.assert_says(desk, ("errs", "no"), ("collect", "none none"), ("story", "4"), ("errs", "yes"))

    def test_story_tells_how_many_happenings(self):
        desk = self.desk("ring 2 2 2")
        told = []
        for row in ONE_ROUND + ("collect", "collect", "take", "lie 0", "drain 1"):
            desk.say(row) if row != "drain 1" else self.assertRaises(NoDeed, desk.say, row)
            told.append(desk.say("story"))
        self.assertEqual(told, ["1", "1", "2", "3", "3", "4", "4", "4", "4", "4"])
        self.assert_says(self.desk("ring 1 2 1"), ("story", "0"))

    def test_waits_tells_how_many(self):
        desk = self.desk("ring 2 2 2")
        self.assert_says(
            desk, ("waits 0", "0"), ("waits 1", "0"), ("ask 5", "0"), ("waits 0", "2"), ("waits 1", "0"),
            ("drain 0", "ok"), ("waits 0", "1"), ("bell 0", "no"), ("waits 0", "0"), ("take", "0 5"), ("waits 1", "1"),
            ("answer 0 6", "ok"), ("waits 1", "3"), ("waits 0", "0"))

    def test_waits_by_two_figures(self):
        desk = self.desk("ring 8 2 9", *["ask 1"] * 8)
        self.assert_says(desk, ("waits 0", "16"), ("story", "8"), *[("drain 0", "ok")] * 16, ("waits 0", "0"))

    def test_errs(self):
        desk = self.desk("ring 1 2 1 look")
        self.assert_says(desk, ("errs", "no"), ("ask 5", "0"), ("bell 0", "no"), ("lie 1", "ok"), ("errs", "no"),
                         ("look 1", "no"), ("errs", "yes"), ("errs", "yes"), ("bell 0", "yes"), ("errs", "no"))

    def test_looking_at_a_yard_changes_nothing(self):
        for rows in (("ring 1 2 1",), ("ring 1 2 1",) + ONE_ROUND, ("ring 2 2 2 counter", "ask 5", "drain 0")):
            plain, looked_at = self.desk(*rows), self.desk(*rows)
            for row in ("errs", "story", "waits 0", "waits 1") * 2:
                looked_at.say(row)
            for row in PROBES:
                self.assertEqual(self.told(looked_at, row), self.told(plain, row))

    def test_what_a_yard_tells_is_what_its_desk_tells(self):
        # Other rows of words, and the same refusals, over long runs with each fault and without.
        for number in range(48):
            chance = random.Random(number)
            faults = FAULTS[number % 6:number % 6 + 1 + number % 3] if number % 6 < 5 else ()
            size, rounds, names = 1 + number % 8, 2 + number % 3, 1 + number % 9
            yard = Yard(size, rounds, names, faults)
            desk = self.desk(" ".join(["ring", str(size), str(rounds), str(names), *faults]))
            for _ in range(150):
                can = yard.can_be_done([chance.randint(-9, 9)])
                if (yard.sleeper(0), yard.sleeper(1)) != ("up", "up"):
                    can = [deed for deed in can if deed[0] != "lie"]
                can += [("look", 0), ("drain", 1), ("answer", 1, 2), ("ask", 3)] if not number % 4 else []
                if not can:
                    break
                deed = chance.choice(can)
                wanted = self.words_for(yard, deed)
                self.assertEqual(self.told(desk, " ".join(map(str, deed))), wanted, deed)
                self.assertEqual(desk.say("errs"), "yes" if errs(yard) else "no")
            self.assertEqual(desk.say("story"), str(len(yard.story())))
            for side in (0, 1):
                self.assertEqual(desk.say(f"waits {side}"), str(len(yard.store().waits(side))))

    def words_for(self, yard, deed):
        try:
            told = yard.deed(deed)
        except RingError as error:
            return type(error)
        if deed[0] in ("answer", "lie", "drain"):
            return "ok"
        if isinstance(told, tuple):
            return f"{told[0]} {told[1]}".lower()
        return {True: "yes", False: "no"}[told] if isinstance(told, bool) else str(told).lower()

    def test_more_than_two_thousand_rows(self):
        desk = self.desk("ring 1 2 1")
        for _ in range(400):
            self.assert_says(desk, ("ask 5", "0"), ("bell 0", "no"), ("take", "0 5"), ("answer 0 6", "ok"),
                             ("bell 1", "no"), ("collect", "0 6"))
            desk.say("bell 0")
        self.assert_says(desk, ("story", "1600"), ("errs", "no"))


class RingTest(DeskCase):
    def test_every_size_rounds_and_names(self):
        desk = Desk()
        for size, rounds, names in itertools.product(range(1, 9), range(2, 5), range(1, 10)):
            self.assert_says(desk, (f"ring {size} {rounds} {names}", "ok"))
            for name in range(min(size, names)):
                self.assert_says(desk, ("ask 1", str(name)))
            self.assertRaises(Full if size <= names else NoName, desk.say, "ask 1")

    def test_rounds_are_the_second_number(self):
        # By the writes it takes till the counter is at 0 again, and so by what errs without the right rounds.
        desk = self.desk("ring 2 3 9 round", "ask 1", "ask 1", "bell 0")
        self.assert_says(desk, ("errs", "yes"), ("ring 3 2 9 round", "ok"), ("ask 1", "0"), ("ask 1", "1"),
                         ("bell 0", "no"), ("errs", "no"), ("ask 1", "2"), ("bell 0", "no"), ("errs", "yes"))

    def test_every_rising_row_of_faults(self):
        desk = Desk()
        for many in range(6):
            for faults in itertools.combinations(FAULTS, many):
                self.assert_says(desk, (" ".join(("ring 1 2 1",) + faults), "ok"), ("story", "0"))

    def test_each_fault_is_handed_on(self):
        runs = {"bell": ("ask 5", "bell 0", "waits 0"), "counter": ("ask 5", "drain 0", "take"),
                "lie": ("lie 0", "waits 0"), "look": ("ask 5", "bell 0", "lie 1", "look 1"),
                "round": ("ask 5", "bell 0", "take")}
        wanted = {"bell": ("0", "2"), "counter": ("none", "none none"), "lie": ("0", "1"), "look": ("yes", "no"),
                  "round": ("0 5", "none")}
        for fault, rows in runs.items():
            plain, with_fault = self.desk("ring 1 2 1"), self.desk(f"ring 1 2 1 {fault}")
            told = [(plain.say(row), with_fault.say(row)) for row in rows]
            self.assertEqual(told[-1], wanted[fault])
            others = " ".join(one for one in FAULTS if one != fault)
            self.assertEqual(self.desk(f"ring 1 2 1 {others}").say("story"), "0")

    def test_a_new_yard_in_the_place_of_the_old_one(self):
        desk = self.desk("ring 1 2 1", "ask 5", "lie 1", "look 1", "lie 0")
        self.assert_says(desk, ("ring 2 2 2", "ok"), ("story", "0"), ("waits 0", "0"), ("take", "none"), ("ask 1", "0"),
                         ("ask 1", "1"), ("bell 1", "no"))
        self.assert_says(desk, ("ring 2 2 2", "ok"), ("ask 1", "0"), ("waits 0", "2"))

    def test_what_is_no_ring_leaves_the_yard(self):
        rows = ("ring 2 2 2", "ask 5", "bell 0", "lie 1", "ask 6")
        refused = ["ring", "ring 1", "ring 1 2", "ring 1 2 ", "ring 1 2 1 ", " ring 1 2 1", "ring  1 2 1",
                   "ring 1  2 1", "ring 1 2  1", "ring 1 2 1  bell", "ring 1 2 1 bell ", "ring 1 2 1\n",
                   "ring 1 2 1 bell\n", "ring\n1 2 1", "ring 1 2 1 1", "ring bell 1 2 1", "ring 1 2 bell",
                   "rings 1 2 1", "Ring 1 2 1", "ring 01 2 1", "ring 1 02 1", "ring 1 2 01", "ring +1 2 1",
                   "ring 1 2 -1", "ring 1 2 one", "ring 1 2 1.0", "ring\t1 2 1", "ring 1 2 1, bell"]
        self.assert_refused(NoRow, rows, refused)
        self.assert_refused(NoRow, (), refused)

    def test_numbers_out_of_bounds(self):
        refused = [f"ring {size} 2 1" for size in (0, 9, 10, -1, 100, 10 ** 12, 10 ** 40)]
        refused += [f"ring 1 {rounds} 1" for rounds in (0, 1, 5, -2, 20)]
        refused += [f"ring 1 2 {names}" for names in (0, 10, -1, 11, 99)]
        self.assert_refused(NoRow, ("ring 2 2 2", "ask 5"), refused)
        self.assert_refused(NoRow, (), refused)

    def test_faults_that_do_not_rise_come_twice_or_are_none(self):
        refused = [f"ring 1 2 1 {fault} {fault}" for fault in FAULTS]
        refused += [f"ring 1 2 1 {one} {other}" for one, other in itertools.combinations(FAULTS[::-1], 2)]
        refused += ["ring 1 2 1 bell counter bell", "ring 1 2 1 bell lie counter look", "ring 1 2 1 bell bell counter"]
        refused += [f"ring 1 2 1 {word}" for word in ("bells", "Bell", "none", "()", "bel", "ask", "belllie", "0",
                                                      "bell,lie", "bell none", "a bell", "bell z", "-", "ring")]
        self.assert_refused(NoRow, ("ring 2 2 2", "ask 5"), refused)
        self.assert_refused(NoRow, (), refused)


class RefusalTest(DeskCase):
    def test_full(self):
        self.assert_refused(Full, ("ring 1 2 2", "ask 5"), ["ask 5", "ask -1000000000"])
        self.assert_refused(Full, ("ring 1 2 2",) + ONE_ROUND + ("ask 7", "bell 0", "take"), ["answer 1 5"])

    def test_full_goes_ahead_of_no_name_and_no_task_ahead_of_full(self):
        self.assert_refused(Full, ("ring 1 2 1", "ask 5"), ["ask 5"])
        self.assert_refused(NoTask, ("ring 1 2 2",) + ONE_ROUND + ("ask 7", "bell 0", "take"), ["answer 0 5"])

    def test_no_name(self):
        self.assert_refused(NoName, ("ring 2 2 1", "ask 5"), ["ask 5"])
        self.assert_refused(NoName, ("ring 1 2 1 round", "ask 5"), ["ask 5"])

    def test_no_task(self):
        self.assert_refused(NoTask, ("ring 2 2 2",), ["answer 0 5", "answer 9 5", "answer 1000000000 5"])
        self.assert_refused(NoTask, ("ring 2 2 2",) + ONE_ROUND, ["answer 0 5", "answer 1 0"])

    def test_no_deed(self):
        self.assert_refused(NoDeed, ("ring 2 2 2",), ["look 0", "look 1", "drain 0", "drain 1"])
        hand, heart = ["ask 5", "collect", "bell 0", "lie 0"], ["take", "answer 0 5", "answer 9 5", "bell 1", "lie 1"]
        self.assert_refused(NoDeed, ("ring 1 2 1", "ask 5", "lie 0"), hand + ["look 1", "drain 0"])
        self.assert_refused(NoDeed, ("ring 1 2 1", "lie 0", "look 0"), hand + ["look 0", "drain 0"])
        self.assert_refused(NoDeed, ("ring 1 2 1",) + ONE_ROUND + ("lie 1",), heart + ["look 0", "drain 1"])
        self.assert_refused(NoDeed, ("ring 1 2 1", "lie 1", "look 1"), heart + ["look 1", "drain 1"])

    def test_no_row_goes_ahead_where_a_side_is_asleep(self):
        rows = ("ring 1 2 1", "lie 0", "look 0", "lie 1", "look 1")
        self.assert_refused(NoRow, rows, ["ask", "ask 1000000001", "answer -1 5", "bell 2", "look 0 1", "drain"])
        self.assert_refused(NoDeed, rows, ["ask 1000000000", "answer 0 5", "bell 1", "look 0", "drain 0"])


class NoRowTest(DeskCase):
    BEHIND = (("ring 2 2 2",) + ONE_ROUND + ("ask 7", "bell 0", "take"), ("ring 2 2 2", "ask 5", "lie 1"))

    def assert_no_row(self, refused):
        for rows in self.BEHIND:
            self.assert_refused(NoRow, rows, refused)

    def test_without_a_yard(self):
        rows = ["ask 5", "collect", "take", "answer 0 5", "bell 0", "lie 1", "look 1", "drain 0", "story", "waits 0",
                "errs", "", " ", "ask", "nothing"]
        self.assert_refused(NoRow, (), rows)
        desk = Desk()
        self.assertRaises(NoRow, desk.say, "story")
        self.assert_says(desk, ("ring 1 2 1", "ok"), ("story", "0"))

    def test_what_is_no_text(self):
        some = [None, 5, 0, True, False, -1, (), ("ask", 5), ("collect",), [], ["collect"], [["take"]], {}, {"take": 1},
                {"take"}, b"collect", bytearray(b"take"), object(), str, Desk, Unlike(), lambda: "take", range(3)]
        self.assert_no_row(some)
        self.assert_refused(NoRow, (), some)

    def test_words_too_many_or_too_few(self):
        self.assert_no_row(["ask", "ask 5 5", "collect 0", "collect collect", "take 1", "answer", "answer 1",
                            "answer 1 5 5", "bell", "bell 0 1", "lie", "lie 0 0", "look", "look 0 1", "drain",
                            "drain 0 0", "story 1", "story story", "waits", "waits 0 1", "errs 0", "errs yes"])

    def test_other_words(self):
        self.assert_no_row(["", "asks 5", "as 5", "ASK 5", "Collect", "tak", "taken", "answered 1 5", "ring", "wait 0",
                            "err", "state", "fence 0", "sleeper 0", "5", "0", "none", "ok", "yes", "deed", "'take'",
                            "take.", "take;", "(take)", "5 ask", "1 5 answer", "story,", "handed", "asked 0 5"])

    def test_words_in_the_place_of_numbers(self):
        self.assert_no_row(["ask five", "ask none", "ask x", "ask -", "ask --5", "ask 5-", "ask 1,000", "ask 5.0",
                            "ask 5e1", "ask 0x5", "ask 1_0", "ask 5a", "ask a5", "ask .", "ask +", "ask (5)", "bell x",
                            "answer x 5", "answer 1 x", "waits x", "drain all", "ask -a", "ask 1/1"])

    def test_blanks_ahead_behind_or_two(self):
        for row in ("ask 5", "collect", "take", "answer 1 5", "bell 0", "lie 0", "drain 0", "story", "waits 0", "errs"):
            self.assert_no_row([" " + row, row + " ", "  " + row, row + "  "])
            if " " in row:
                self.assert_no_row([row.replace(" ", "  "), row.replace(" ", "")])
        self.assert_no_row([" ", "  ", "ask ", "ask  5", "answer 1  5", "answer  1 5", "ask - 5", "an swer 1 5"])

    def test_line_feeds_and_other_signs(self):
        for row in ("ask 5", "collect", "take", "answer 1 5", "bell 0", "lie 0", "drain 0", "story", "waits 0", "errs"):
            for sign in "\n\r\t\0\v\f\x1c\x7f\x85\xa0\u2028\u200b\ufeff\ud800\u0301":
                self.assert_no_row([sign + row, row + sign])
                if " " in row:
                    self.assert_no_row([row.replace(" ", sign), row.replace(" ", " " + sign)])
        self.assert_no_row(["\n", "story\nstory", "take\ntake", "ask 5\nask 5", "t\u0430ke"])

    def test_figures_of_other_scripts(self):
        self.assert_no_row(["ask \u0663", "ask \uff15", "ask 5\u0663", "ask \u00b2", "ask \u2155", "ask -\u0665",
                            "ask \u22125", "answer \u0661 5", "bell \u0660", "waits \uff10", "ask \U0001d7d3"])

    def test_noughts_and_signs_ahead(self):
        self.assert_no_row(["ask 05", "ask 00", "ask -0", "ask -05", "ask +5", "ask +0", "ask -00", "ask 000000000005",
                            "answer 01 5", "answer 1 05", "answer +1 5", "answer -0 5", "answer 1 -0", "bell 00",
                            "bell 01", "bell -0", "bell +1", "lie 00", "look 01", "drain 00", "waits 00", "waits +0",
                            "waits -0"])

    def test_bounds(self):
        self.assert_no_row(["ask 1000000001", "ask -1000000001", "ask 999999999999", "ask -999999999999",
                            "ask 1000000000000", "ask -1000000000000", "ask 0000000000005", "ask " + "9" * 5000,
                            "ask " + "0" * 13, "ask -" + "9" * 5000, "answer 1 1000000001", "answer 1 -1000000001",
                            "answer 1000000001 5", "answer -1 5", "answer -1000000000 5", "answer 999999999999 5",
                            "bell 2", "bell -1", "bell 10", "lie 2", "lie -1", "look 2", "look -1", "drain 2",
                            "drain -1", "waits 2", "waits -1", "waits 1000000000000"])

    def test_the_bounds_themselves_are_taken(self):
        desk = self.desk("ring 8 2 9")
        self.assert_says(desk, ("ask 1000000000", "0"), ("ask -1000000000", "1"), ("ask 0", "2"), ("ask -1", "3"),
                         ("ask 10", "4"), ("bell 0", "no"), ("take", "0 1000000000"), ("take", "1 -1000000000"),
                         ("answer 0 0", "ok"), ("answer 1 -1000000000", "ok"), ("waits 1", "6"), ("waits 0", "0"))

    def test_they_are_ring_errors_and_value_errors(self):
        desk = Desk()
        for some in (None, "", "ask 5", "ring 0 2 1"):
            self.assertRaises(RingError, desk.say, some)
            self.assertRaises(ValueError, desk.say, some)


class TwoDesksTest(DeskCase):
    def test_they_have_nothing_in_common(self):
        one, other = Desk(), Desk()
        one.say("ring 1 2 1 look")
        self.assertRaises(NoRow, other.say, "story")
        other.say("ring 2 2 2")
        for row in ("ask 5", "bell 0", "lie 1", "look 1"):
            one.say(row)
        self.assert_says(other, ("story", "0"), ("waits 0", "0"), ("errs", "no"), ("take", "none"), ("ask 7", "0"),
                         ("ask 7", "1"), ("story", "2"), ("waits 0", "4"))
        self.assert_says(one, ("story", "1"), ("waits 0", "0"), ("errs", "yes"))

    def test_the_same_rows_tell_the_same(self):
        rows = ("ring 2 3 2 bell",) + ONE_ROUND[:2] + PROBES
        one, other = Desk(), Desk()
        for row in rows:
            self.assertEqual(self.told(one, row), self.told(other, row))
        again = Desk()
        first = Desk()
        self.assertEqual([self.told(first, row) for row in rows], [self.told(again, row) for row in rows])


if __name__ == "__main__":
    unittest.main()
