"""Tests of the desk [77]."""

import random
import unittest

from oldletters.claims import end_without, surely_holds, widest_ends
from oldletters.desk import Desk
from oldletters.errors import NoText, OldError, Wrong
from oldletters.knots import ever_at
from oldletters.nets import with_code_at, with_letter_at
from oldletters.reader import read_claim, read_net
from oldletters.texts import default_names, show_box, show_claim, show_code, show_net
from tests.samples import LATCH_NET, check_new, odd_values, random_claim, random_code, small_nets

TEXT = "worker a: x y\n  s: x\n  t: y\ncode a\n  s: go t\n  t: go t"
LATCH_TEXT = """
worker latch: off on   # stays on
  low: off
  high: on
worker turn: off on
  low: off
  high: on
code latch
  low: get turn
    off: go low
    on: go high
  high: go high
code turn
  *: get latch
    off: go high
    on: go low
"""
# Its names are words of the language, and of commands.
WORDS_TEXT = """
worker not: go get
  and: go
  or: get
steady code: worker steady
  keep: worker
  sure: steady
code code
  keep: go sure
  sure: get not
    go: go keep
    get: go sure
code not
  and: get code
    *: go or
  or: go and
"""


def told(desk):
    """Return what a desk tells of itself."""
    return (desk.names(), desk.net(), desk.do("claims"))


class Desks(unittest.TestCase):
    def refused(self, desk, command, word):
        """Check that a command is refused, and changes nothing."""
        before = told(desk)
        self.assertEqual(desk.do(command), ["refused " + word], command)
        self.assertEqual(told(desk), before)

    def test_example(self):
        desk = Desk(TEXT)
        self.assertEqual([desk.do("ends"), desk.do("keep a=t"), desk.do("code a t\nget a\n  *: go s")],
                         [["end", "a: t"], ["done"], ["done"]])
        self.assertEqual([desk.do("code a s\ngo s"), desk.do("claims"), desk.do("undo"), desk.do("go")],
                         [["done", "lost a=t"], ["no a=t"], ["done"], ["refused NoCommand"]])

    def test_names_and_net(self):
        for text in (TEXT, LATCH_TEXT, WORDS_TEXT):
            desk = Desk(text)
            self.assertEqual((desk.names(), desk.net()), read_net(text))
        self.assertEqual(Desk(LATCH_TEXT).net(), LATCH_NET)
        check_new(self, Desk(TEXT).names)
        check_new(self, Desk(TEXT).net)

    def test_each_command(self):
        desk = Desk(LATCH_TEXT)
        self.assertEqual(desk.do("claims"), [])
        self.assertEqual(desk.do("ends"), ["end", "latch: high", "turn: low"])
        self.assertEqual(desk.do("sure latch=high and not turn=high"), ["yes"])
        self.assertEqual(desk.do("sure turn=high"), ["no", "latch: high", "turn: low"])
        self.assertEqual(desk.do("keep latch=high"), ["done"])
        self.assertEqual(desk.do("keep not (turn=high or latch=low)"), ["done"])
        self.assertEqual(desk.do("keep turn=high"), ["done"])
        self.assertEqual(desk.do("claims"), [
            "yes latch=high", "yes not (turn=high or latch=low)", "no turn=high"])
        self.assertEqual(desk.do("code latch low\ngo low"), [
            "done", "lost latch=high", "lost not (turn=high or latch=low)"])
        self.assertEqual(desk.net(), with_code_at(LATCH_NET, 0, 0, ("go", 0)))
        self.assertEqual(desk.do("claims"), ["no latch=high", "no not (turn=high or latch=low)", "yes turn=high"])
        self.assertEqual(desk.do("ends"), ["end", "latch: low", "turn: high"])
        self.assertEqual(desk.do("undo"), ["done", "lost turn=high"])
        self.assertEqual(desk.do("redo"), ["done", "lost latch=high", "lost not (turn=high or latch=low)"])
        self.assertEqual(desk.do("drop 1"), ["done"])
        self.assertEqual(desk.do("claims"), ["no latch=high", "yes turn=high"])
        self.assertEqual(desk.do("show turn high off"), ["done"])
        self.assertEqual(desk.net(), with_letter_at(with_code_at(LATCH_NET, 0, 0, ("go", 0)), 1, 1, 0))
        self.assertEqual([desk.do("undo") for _ in range(4)], [
            ["done"], ["done"], ["done", "lost turn=high"], ["done"]])
        self.assertEqual(desk.do("claims"), ["yes latch=high", "yes not (turn=high or latch=low)"])

    def test_several_ends_in_order(self):
        desk = Desk("worker a: x\n  s: x\n  t: x\n  u: x\ncode a\n  s: get a\n    x: go t\n  t u: go u")
        self.assertEqual(desk.do("ends"), ["end", "a: u"])
        stays = Desk("worker a: x y\n  s: x\n  t: y\nworker b: x\n  s: x\n  t: x\n  u: x\ncode a\n  *: get a\n    x: go t\n"
                     "    y: go s\ncode b\n  s: get a\n    x: go t\n    y: go u\n  t: go t\n  u: go u")
        self.assertEqual(stays.do("ends"), ["end", "a: s t", "b: t", "end", "a: s t", "b: u"])

    def test_blanks(self):
        desk = Desk(LATCH_TEXT)
        self.assertEqual(desk.do("   sure    latch=high   "), ["yes"])
        self.assertEqual(desk.do(" keep latch=high "), ["done"])
        self.assertEqual(desk.do("  claims "), ["yes latch=high"])
        self.assertEqual(desk.do("  ends  "), ["end", "latch: high", "turn: low"])
        self.assertEqual(desk.do("   show  turn   high    on  "), ["done"])
        self.assertEqual(desk.do("  code  turn  low  \nget latch  \n   *:go high   "), ["done"])
        self.assertEqual(desk.do("  drop   0 "), ["done"])
        self.assertEqual([desk.do(" undo "), desk.do("  redo ")], [["done"], ["done"]])

    def test_claims_over_several_lines(self):
        desk = Desk(LATCH_TEXT)
        self.assertEqual(desk.do("sure\nlatch=high\n  and # both\n not ( turn=high\n)\n"), ["yes"])
        self.assertEqual(desk.do("  keep # a note\nlatch=high # another\n"), ["done"])
        self.assertEqual(desk.do("keep latch=high or\nturn=low"), ["done"])
        self.assertEqual(desk.do("keep(latch=high)"), ["refused NoCommand"])
        self.assertEqual(desk.do("claims"), ["yes latch=high", "yes (latch=high or turn=low)"])
        # What is noted on the first line is no claim.
        self.refused(desk, "sure # latch=high", "NoText")
        self.refused(desk, "sure latch=high\nturn=low", "NoText")

    def test_codes_with_notes(self):
        desk = Desk(LATCH_TEXT)
        self.assertEqual(desk.do("code latch high\n# a note\n\nget turn # one\n    off: go low\n    # two\n    on: go high\n"),
                         ["done"])
        code = ("get", 1, (("go", 0), ("go", 1)))
        self.assertEqual(desk.net(), with_code_at(LATCH_NET, 0, 1, code))
        self.refused(desk, "code latch high # a note\ngo low", "NoCommand")

    def test_no_command(self):
        desk = Desk(LATCH_TEXT)
        desk.do("keep latch=high")
        for command in ("", " ", "\n", "\nends", "   \nclaims", "go", "Ends", "ENDS", "end", "ends#", "#", "# ends", "put",
                        "take", "change latch low\ngo low", "net", "names", "refused", "done",
                        "ends all", "claims 0", "undo 1", "redo now", "drop", "drop 0 0", "show", "show latch",
                        "show latch low", "show latch low off on", "code", "code latch", "code latch\ngo low",
                        "code latch low high\ngo low", "code latch low go low", "drop 0 # note", "ends # note",
                        "ends\n", "claims\n", "undo\n", "redo\n", "drop 0\n", "show latch low on\n", "drop\n0",
                        "ends\nends", "show latch low\non", "suren latch=low", "sure\tlatch=low".replace("\t", "_"),
                        "show nobody low on\n", "drop 7\n", "ends latch=low", "no\nyes", "drop 0\n0"):
            self.refused(desk, command, "NoCommand")

    def test_no_name(self):
        desk = Desk(LATCH_TEXT)
        desk.do("keep latch=high")
        for command in ("drop 1", "drop 00", "drop 01", "drop -0", "drop -1", "drop +0", "drop 0.", "drop x", "drop latch",
                        "drop 0000000000", "drop 1000000000", "drop 999999999", "drop 0_0", "drop #",
                        "show nobody low on", "show latch off on", "show latch low low", "show latch low on:",
                        "show latch, low on", "show 0 0 0", "show Latch low on", "show turn high #on",
                        "code nobody low\ngo low", "code latch on\ngo low", "code latch low:\ngo low",
                        # Names come ahead of what the text lacks.
                        "code nobody low\n", "code latch nowhere", "code latch nowhere\nget"):
            self.refused(desk, command, "NoName")
        self.assertEqual(desk.do("drop 0"), ["done"])
        self.refused(desk, "drop 0", "NoName")

    def test_numbers(self):
        desk = Desk(TEXT)
        for _ in range(6):
            desk.do("keep a=t")
        self.assertEqual(desk.do("drop 5"), ["done"])
        self.refused(desk, "drop 5", "NoName")
        self.assertEqual([desk.do("drop " + number) for number in "43210"], [["done"]] * 5)

    def test_no_text(self):
        desk = Desk(LATCH_TEXT)
        for command in ("sure", "keep", "sure ", "keep\n", "sure\n\n", "sure latch", "sure latch=", "sure latch=on",
                        "keep nobody=low", "keep latch=low and", "keep (latch=low", "keep latch=low)", "sure not",
                        "sure latch=low turn=low", "keep latch=low,low", "keep ()", "keep and latch=low",
                        "sure latch = low", "sure " + " and ".join(["latch=low"] * 31),
                        "code latch low", "code latch low\n", "code latch low\n# go low", "code latch low\ngo",
                        "code latch low\n go low", "code latch low\ngo nowhere", "code latch low\ngo low\ngo low",
                        "code latch low\nget nobody", "code latch low\nget turn\n  off: go low",
                        "code latch low\nget turn\n  off on: go low\n  *: go low", "code latch low\nlow: go low",
                        "code latch low\nget turn\noff on: go low"):
            self.refused(desk, command, "NoText")

    def test_too_many_and_nothing(self):
        desk = Desk(LATCH_TEXT)
        self.refused(desk, "undo", "Nothing")
        self.refused(desk, "redo", "Nothing")
        for _ in range(6):
            self.assertEqual(desk.do("keep latch=high"), ["done"])
        self.refused(desk, "keep latch=high", "TooMany")
        # A bad claim is due before.
        self.refused(desk, "keep latch=on", "NoText")
        self.refused(desk, "redo", "Nothing")
        self.assertEqual(desk.do("sure latch=high"), ["yes"])
        self.assertEqual(desk.do("undo"), ["done"])
        self.refused(desk, "keep", "NoText")
        # What was refused has left what can be done again.
        self.assertEqual(desk.do("redo"), ["done"])
        self.assertEqual(desk.do("undo"), ["done"])
        self.assertEqual(desk.do("code latch low\nget turn\n  off: go low\n  on: go high"), ["done"])
        self.refused(desk, "redo", "Nothing")

    def test_names_that_are_words_of_the_language(self):
        desk = Desk(WORDS_TEXT)
        self.assertEqual(desk.do("keep not=and"), ["done"])
        self.assertEqual(desk.do("keep not not=and or code=keep and code=sure,keep"), ["done"])
        self.assertEqual(desk.do("claims")[0], "yes not=and")
        self.assertEqual(desk.do("claims")[1].partition(" ")[2], "(not not=and or (code=keep and code=keep,sure))")
        self.assertEqual(desk.do("show not and get"), ["done"])
        self.assertEqual(desk.do("code code keep\nget code\n  worker: go sure\n  steady: go keep"), ["done"])
        self.assertEqual(desk.do("code not or\nget not\n  go get: go or"), ["done", "lost not=and"])
        self.assertEqual(desk.do("sure code=sure")[0] in ("yes", "no"), True)
        self.refused(desk, "sure not", "NoText")
        self.refused(desk, "show not or and", "NoName")

    def test_steady_workers(self):
        desk = Desk(WORDS_TEXT)
        net = desk.net()
        names = desk.names()
        lines = []
        for box in widest_ends(net, ever_at(net)):
            lines += ["end"] + show_box(names, box).split("\n")
        self.assertEqual(desk.do("ends"), lines)

    def test_values_of_any_kind(self):
        for thing in odd_values():
            if not isinstance(thing, str):
                with self.assertRaises(Wrong) as caught:
                    Desk(thing)
                self.assertEqual(caught.exception.place, 0)
        desk = Desk(LATCH_TEXT)
        desk.do("keep latch=high")
        before = told(desk)
        for thing in odd_values() + [["ends"], ("ends",), b"ends"]:
            if isinstance(thing, str):
                self.assertEqual(desk.do(thing), ["refused NoCommand"])
            else:
                with self.assertRaises(Wrong) as caught:
                    desk.do(thing)
                self.assertEqual(caught.exception.place, 0)
        self.assertEqual(told(desk), before)

    def test_texts_that_are_no_nets(self):
        for text, line in (("", 2), ("\n", 3), ("worker a: x", 2), (TEXT + "\n  u: go s", 7), ("code a", 1),
                           (TEXT.replace("go t", "go u"), 5), ("x" * 6000, 1)):
            with self.assertRaises(NoText) as caught:
                Desk(text)
            self.assertEqual(caught.exception.line, line)

    def test_texts_of_any_signs(self):
        rng = random.Random(77)
        words = ["ends", "claims", "undo", "redo", "drop", "show", "code", "sure", "keep", "latch", "turn", "low", "high",
                 "on", "off", "0", "1", "latch=low", "not", "(", ")", "and", "\n", "#", "go", "get", ":", "*", "  ", "~", "\\"]
        desk = Desk(LATCH_TEXT)
        seen = {}
        for _ in range(3000):
            command = " ".join(rng.choice(words) for _ in range(rng.randint(1, 6))).replace(" \n ", "\n")
            before = told(desk)
            try:
                lines = desk.do(command)
            except OldError as error:
                self.fail((command, error))
            self.assertTrue(all(isinstance(line, str) and "\n" not in line for line in lines))
            if lines and lines[0].startswith("refused "):
                self.assertEqual((len(lines), told(desk)), (1, before))
                seen[lines[0]] = seen.get(lines[0], 0) + 1
        self.assertEqual(sorted(seen)[:3], ["refused NoCommand", "refused NoName", "refused NoText"])

    def test_drawn_nets(self):
        rng = random.Random(78)
        for net in small_nets(20) + small_nets(20, steady=True):
            names = default_names(net)
            desk = Desk(show_net(names, net))
            self.assertEqual((desk.names(), desk.net()), (names, net))
            claims = [random_claim(rng, net, 4) for _ in range(4)]
            for claim in claims:
                self.assertEqual(read_claim(names, show_claim(names, claim)), claim)
                self.assertEqual(desk.do("keep " + show_claim(names, claim)), ["done"])
                box = end_without(net, claim, "lossy")
                wanted = ["yes"] if box is None else ["no"] + show_box(names, box).split("\n")
                self.assertEqual(desk.do("sure " + show_claim(names, claim)), wanted)
            worker = rng.randrange(len(net[0]))
            state = rng.randrange(len(net[0][worker][1]))
            code = random_code(rng, [one[0] for one in net[0]], len(net[0][worker][1]), 2)
            other = with_code_at(net, worker, state, code)
            lost = ["lost " + show_claim(names, claim) for claim in claims
                    if surely_holds(net, claim, "lossy") and not surely_holds(other, claim, "lossy")]
            found = desk.do(f"code w{worker} s{state}\n" + show_code(names, worker, code))
            self.assertEqual(found, ["done"] + lost)
            self.assertEqual(desk.net(), other)
            self.assertEqual(desk.do("claims"), [
                ("yes " if surely_holds(other, claim, "lossy") else "no ") + show_claim(names, claim)
                for claim in claims])

    def test_what_is_returned_may_be_changed(self):
        desk = Desk(LATCH_TEXT)
        desk.do("keep latch=high")
        for command in ("ends", "claims", "sure turn=high", "show turn high on"):
            check_new(self, lambda: desk.do(command))

    def test_two_desks_apart(self):
        one, other = Desk(TEXT), Desk(TEXT)
        one.do("keep a=t")
        self.assertEqual((one.do("claims"), other.do("claims")), (["yes a=t"], []))
        self.assertEqual(other.do("undo"), ["refused Nothing"])


if __name__ == "__main__":
    unittest.main()
