"""Tests of the reader [26]."""

import random
import unittest

from oldletters import reader, texts
from oldletters.errors import NoText, Wrong
from tests.samples import NETS, THREE_NET, odd_values, random_code, random_lots, random_nets
from tests.test_texts import WORDS

NAMES = (("a", "b"), (("x", "y"), ("p", "q", "r")), (("s", "t"), ("u",)))
HEAD = ["worker a: x y", "  s: x", "  t: y", "steady b: p q r", "  u: q"]
CODES = ["code a", "  s: get b", "    p: go s", "    q: go t", "    r: go t", "  t: go s", "code b", "  u: go u"]
GOOD = HEAD + CODES
NET = (((2, (0, 1), (("get", 1, (("go", 0), ("go", 1), ("go", 1))), ("go", 0))), (3, (1,), (("go", 0),))), (1,))


class Reading(unittest.TestCase):
    def bad_at(self, line, read, *things):
        with self.assertRaises(NoText, msg=repr(things)) as caught:
            read(*things)
        self.assertEqual(caught.exception.line, line, things[-1])

    def bad_net(self, line, rows):
        self.bad_at(line, reader.read_net, "\n".join(rows))

    def bad_with(self, index, row, line=None):
        """Check that the good net with another line at an index is bad there, or at another line."""
        rows = list(GOOD)
        rows[index] = row
        self.bad_net(index + 1 if line is None else line, rows)


class Nets(Reading):
    def test_good(self):
        self.assertEqual(reader.read_net("\n".join(GOOD)), (NAMES, NET))

    def test_what_is_shown_is_read_back(self):
        for net in NETS + random_nets(30, depth=3, steady=True):
            names = texts.default_names(net)
            self.assertEqual(reader.read_net(texts.show_net(names, net)), (names, net))
        self.assertEqual(reader.read_net(texts.show_net(WORDS, THREE_NET)), (WORDS, THREE_NET))

    def test_no_string(self):
        for odd in odd_values():
            if not isinstance(odd, str):
                with self.assertRaises(Wrong) as caught:
                    reader.read_net(odd)
                self.assertEqual(caught.exception.place, 0)
        with self.assertRaises(Wrong):
            reader.read_net(b"worker a: x")

    def test_written_otherwise(self):
        rows = ["", "  # a note", "worker   a :x   y  ", "         s:x", "    ", "         t  :  y # and more", "#",
                "steady b: p q r#", " u:q", "", "code b # first", "       u  : go   u", "code   a",
                "   t :go s", "   s: get b", "    q  r : go t", "    p: go s", "", "  ", "# end: here", ""]
        self.assertEqual(reader.read_net("\n".join(rows)), (NAMES, NET))

    def test_star_and_several_heads(self):
        for block in (["  s: get b", "    p: go s", "    *: go t", "  *: go s"],
                      ["  t: go s", "  *: get b", "     r q: go t", "     *: go s"],
                      ["  t: go s", "  s: get b", "     r q: go t", "     p: go s"]):
            self.assertEqual(reader.read_net("\n".join(HEAD + ["code a"] + block + ["code b", "  *: go u"])),
                             (NAMES, NET))
        both = reader.read_net("\n".join(HEAD + ["code a", " * : get b", "  *: get a", "   y x: go t", "code b",
                                                 " u: go u"]))
        code = ("get", 1, (("get", 0, (("go", 1), ("go", 1))),) * 3)
        self.assertEqual(both[1][0][0][2], (code, code))

    def test_words_of_the_language_as_names(self):
        rows = ["steady code: go get", "  worker: get", "  steady: go", "worker worker: worker", " code: worker",
                "code worker", " code: get code", "  get: go code", "  go: go code", "code code", " *: go steady"]
        self.assertEqual(reader.read_net("\n".join(rows)), (
            (("code", "worker"), (("go", "get"), ("worker",)), (("worker", "steady"), ("code",))),
            (((2, (1, 0), (("go", 1), ("go", 1))), (1, (0,), (("get", 0, (("go", 0), ("go", 0))),))), (0,))))

    def test_bad_worker_lines(self):
        for row in ("work a: x y", "worker: x y", "worker a b: x y", "worker A: x y", "worker a:", "worker a x y",
                    " worker a: x y", "worker a: x x", "worker a: x y x", "worker a: x Y", "worker a: x 1",
                    "worker a: x: y", "worker 1: x y", "a: x y", ": x y", ":", "worker _a: x y", "go", "code a",
                    "worker a, x y", "Worker a: x y", "steady: x", "worker* a: x y", "worker a: x,y"):
            self.bad_with(0, row)
        for row in ("worker a: p q r", "steady a: p q r", "steady b: p q p", "  steady b: p q r", "worker b",
                    "steady : p q r", "steady b: "):
            self.bad_with(3, row)

    def test_bad_state_lines(self):
        for row in ("s: x", "  s: z", "  s: x y", "  s:", "  s", "  s t: x", "  S: x", "  s: X", "  : x", "  *: x",
                    "  s: *", "code a", "  9: x", "  s: x:", "worker b: x"):
            self.bad_with(1, row)
        for row in ("  s: y", "   t: y", " t: y", "    t: y", "  t: p", "  t: y x"):
            self.bad_with(2, row)
        # A block of states has no blocks beneath its lines, and ends at a line of indent 0 alone.
        self.bad_net(3, ["worker a: x", "    s: x", "  t: x", "code a", "  *: go s"])

    def test_bad_code_lines(self):
        for row in ("code", "code c", "code a b", "code a:", "code: a", " code a", "Code a", "go s", "a", "code A",
                    "  v: x", "x", "code b c", "worker", "steady a"):
            self.bad_with(5, row)
        self.bad_with(11, "code a")
        self.bad_with(11, "worker c: x")
        self.bad_with(11, "  u: go u")

    def test_bad_block_lines(self):
        for row in ("s: get b", "  u: get b", "  s: get c", "  s: got b", "  s: get", "  s get b", "  : get b",
                    "  s s: get b", "  s *: get b", "  * *: get b", "  s: get b b", "  S: get b", "  s:",
                    "  s", "  *", "  s t", "  s: go u", "  s: go", "  s: go s t", "  s: go: s", "  s,t: go s",
                    "  s: get a:", "code b"):
            self.bad_with(6, row)
        for row in ("  p: go s", "p: go s", " p: go s", "    s: go s", "    p: go p", "    p q p: go s",
                    "    p: get", "  t: go s", "code b"):
            self.bad_with(7, row)
        for row in ("   q: go t", "     q: go t", "    p: go t", "    p q: go t", "  t: go s", "    q: go u"):
            self.bad_with(8, row)
        for row in ("    t: go s", "   t: go s", " t: go s", "  s: go s", "  s t: go s", "    r: go t", "    *: go t",
                    "code b"):
            self.bad_with(10, row)
        # Beneath a line with go nothing stands; a full block goes on no further.
        self.bad_net(8, HEAD + ["code b", "  u: go u", "    p: go u", "code a"])
        self.bad_net(8, HEAD + ["code b", "  u: go u", "  *: go u", "code a"])
        self.bad_with(9, "    *: get b", 11)

    def test_lines_behind_the_end(self):
        for row in ("  u: go u", "code b", "worker c: x", "x", "    p: go u", ":"):
            self.bad_net(len(GOOD) + 1, GOOD + [row])
            self.bad_net(len(GOOD) + 3, GOOD + ["", "# note", row])

    def test_skipped_lines_are_counted(self):
        self.bad_net(4, ["", "# worker", "  ", "worker a", "  s: x"])
        self.bad_net(5, ["worker a: x", "", "  s: x", "#", "  s: x"])

    def test_lacking_lines(self):
        for many in range(len(GOOD)):
            self.bad_net(max(many, 1) + 1, GOOD[:many])
            self.bad_net(many + 4, GOOD[:many] + ["  ", "", "# note"])
        self.bad_at(2, reader.read_net, "")
        self.bad_at(3, reader.read_net, "\n")
        self.bad_at(2, reader.read_net, "   # nothing")
        self.bad_at(3, reader.read_net, "worker a: x\n")

    def test_first_bad_line_of_several(self):
        self.bad_net(2, ["worker a: x", "  s: y", "worker a: x", "code b"])
        self.bad_net(7, HEAD + ["code a", "  s: get c", "    p: go z", "  q"])

    def gets(self, many):
        """Return a text with so many gets on one way."""
        rows = ["worker a: x y", "  s: x", "code a"]
        for depth in range(many):
            rows.append(" " * (2 * depth + 2) + ("s" if depth == 0 else "y") + ": get a")
            rows.append(" " * (2 * depth + 4) + "x: go s")
        return rows + [" " * (2 * many + 2) + ("y" if many else "s") + ": go s"]

    def test_six_gets_and_seven(self):
        for many in range(7):
            net = reader.read_net("\n".join(self.gets(many)))[1]
            code = ("go", 0)
            for _ in range(many):
                code = ("get", 0, (("go", 0), code))
            self.assertEqual(net, (((2, (0,), (code,)),), ()))
        self.bad_net(16, self.gets(7))
        self.bad_net(16, self.gets(9))


class Codes(Reading):
    def test_what_is_shown_is_read_back(self):
        rng = random.Random(26)
        for net in NETS[:3] + random_nets(30):
            names = texts.default_names(net)
            for worker, (_, shown, _) in enumerate(net[0]):
                code = random_code(rng, [one[0] for one in net[0]], len(shown), 4)
                self.assertEqual(reader.read_code(names, worker, texts.show_code(names, worker, code)), code)

    def test_written_otherwise(self):
        self.assertEqual(reader.read_code(NAMES, 0, "# note\n\ngo   t  # more\n\n"), ("go", 1))
        self.assertEqual(reader.read_code(NAMES, 1, "get a\n      y: get b\n       * : go u\n\n      *: go u"),
                         ("get", 0, (("go", 0), ("get", 1, (("go", 0),) * 3))))

    def test_bad(self):
        for text in ("go", "go u", " go s", "go: s", "go s:", ": go s", "x: go s", "go s t", "get", "get c", "Go s",
                     " get b\n  *: go s", "get b b", "code a", "*", "not"):
            self.bad_at(1, reader.read_code, NAMES, 0, text)
        for text in ("go s\ngo s", "go s\n p: go s", "get b\n*: go s", "get b\n p: go u", "get b\n x: go s",
                     "get b\n p: get c"):
            self.bad_at(2, reader.read_code, NAMES, 0, text)
        self.bad_at(4, reader.read_code, NAMES, 0, "\n\nget b\ncode")
        self.bad_at(4, reader.read_code, NAMES, 0, "get b\n p: go s\n\n r p: go s")
        self.bad_at(5, reader.read_code, NAMES, 0, "get b\n *: go t\n\n\n q: go s")

    def test_lacking(self):
        self.bad_at(2, reader.read_code, NAMES, 0, "")
        self.bad_at(4, reader.read_code, NAMES, 0, "# a\n\n   ")
        self.bad_at(2, reader.read_code, NAMES, 0, "get b")
        self.bad_at(4, reader.read_code, NAMES, 0, "get b\n p: go s\n q: go s")
        self.bad_at(4, reader.read_code, NAMES, 0, "get b\n p q: go s\n")

    def test_six_gets_and_seven(self):
        rows = ["get a"]
        code = ("go", 1)
        for depth in range(1, 6):
            rows.append(" " * depth + "*: get a")
        for _ in range(6):
            code = ("get", 0, (code, code))
        self.assertEqual(reader.read_code(NAMES, 0, "\n".join(rows + [" " * 6 + "*: go t"])), code)
        self.bad_at(7, reader.read_code, NAMES, 0, "\n".join(rows + [" " * 6 + "*: get a", " " * 7 + "*: go t"]))


class Boxes(Reading):
    def test_what_is_shown_is_read_back(self):
        rng = random.Random(27)
        for net in NETS + random_nets(20):
            names = texts.default_names(net)
            box = random_lots(rng, [len(worker[1]) for worker in net[0]])
            self.assertEqual(reader.read_box(names, texts.show_box(names, box)), box)

    def test_written_otherwise(self):
        for text in ("a: t s\nb: u", "   b :u # note\n\n a:t s", "a: *\n b: *", "b: u\na : s   t\n\n"):
            self.assertEqual(reader.read_box(NAMES, text), ((0, 1), (0,)))
        self.assertEqual(reader.read_box(NAMES, "a: t\nb: u"), ((1,), (0,)))

    def test_bad(self):
        for text in ("c: s", "a: u", "a: s s", "a:", "a", "a s", "a b: s", ": s", "a: * s", "a: s *", "a: * *",
                     "*: s", "a: s: t", "a a: s", "a: s,t", "A: s"):
            self.bad_at(1, reader.read_box, NAMES, text)
            self.bad_at(3, reader.read_box, NAMES, "\n#\n" + text + "\nb: u")
        self.bad_at(2, reader.read_box, NAMES, "a: s\na: s\nb: u")
        self.bad_at(3, reader.read_box, NAMES, "a: s\nb: u\nb: u")
        self.bad_at(5, reader.read_box, NAMES, "a: s\n\nb: u\n\nx")

    def test_lacking(self):
        self.bad_at(2, reader.read_box, NAMES, "")
        self.bad_at(2, reader.read_box, NAMES, "a: s")
        self.bad_at(4, reader.read_box, NAMES, "b: u\n\n# a: s")


class Claims(Reading):
    def reads(self, text, claim):
        self.assertEqual(reader.read_claim(NAMES, text), claim, text)

    def random_claim(self, rng, depth):
        word = rng.choice(["again", "not", "and", "or"]) if depth else "again"
        if word == "again":
            return rng.choice([("again", 0, (0,)), ("again", 0, (0, 1)), ("again", 1, (0,)), ("again", 0, (1,))])
        if word == "not":
            return ("not", self.random_claim(rng, depth - 1))
        return (word, self.random_claim(rng, depth - 1), self.random_claim(rng, depth - 1))

    def test_what_is_shown_is_read_back(self):
        rng = random.Random(28)
        for _ in range(200):
            claim = self.random_claim(rng, 3)
            self.reads(texts.show_claim(NAMES, claim), claim)
        claim = ("or", ("again", 0, (1,)), ("not", ("again", 2, (0, 1))))
        self.assertEqual(reader.read_claim(WORDS, texts.show_claim(WORDS, claim)), claim)

    def test_binding(self):
        one, two, three = ("again", 0, (0,)), ("again", 0, (1,)), ("again", 1, (0,))
        self.reads("a=s or a=t and b=u", ("or", one, ("and", two, three)))
        self.reads("a=s and a=t or b=u", ("or", ("and", one, two), three))
        self.reads("a=s and a=t and b=u", ("and", ("and", one, two), three))
        self.reads("a=s or a=t or b=u", ("or", ("or", one, two), three))
        self.reads("a=s or a=t and b=u or a=s", ("or", ("or", one, ("and", two, three)), one))
        self.reads("not a=s and a=t", ("and", ("not", one), two))
        self.reads("a=s and not not a=t or b=u", ("or", ("and", one, ("not", ("not", two))), three))
        self.reads("not (a=s or a=t)", ("not", ("or", one, two)))
        self.reads("not (a=s) or a=t", ("or", ("not", one), two))
        self.reads("a=s and (a=t or b=u)", ("and", one, ("or", two, three)))
        self.reads("a=s and (a=t and b=u)", ("and", one, ("and", two, three)))
        self.reads("(a=s and (not (b=u)))", ("and", one, ("not", three)))

    def test_written_otherwise(self):
        one, two = ("again", 0, (0, 1)), ("again", 1, (0,))
        for text in ("a=t,s and b=u", "  a=s,t\nand\n\nb=u\n", "((a=s,t)and(b=u))", "(((a=t,s)))  and b=u # note",
                     "# first\na=s,t # :\n and b=u"):
            self.reads(text, ("and", one, two))
        self.reads("not\na=s,t", ("not", one))

    def test_words_of_the_language_as_names(self):
        self.assertEqual(reader.read_claim(WORDS, "not not=worker and get=not,go"),
                         ("and", ("not", ("again", 2, (0,))), ("again", 0, (0, 1))))

    def test_bad(self):
        for text in ("a", "a=", "=s", "a=s=t", "a=u", "c=s", "a=s,", "a=,s", "a=s,s", "a=s,t,s", "a = s", "a= s",
                     "a=s:", "and", "or a=s", ")", "()", "not )", "not and", "a=s a=t", "a=s not a=t", "a=s (a=t)",
                     "a=s)", "(a=s))", "a=s and or a=t", "(a=s or)", "A=s", "a=S", "a=*", "*", "a=s,t;", ":", "a:s",
                     "NOT a=s", "(a=s) a", "a=s or not or", "(a=s a=t)", "(a=s not", "((a=s b) )"):
            self.bad_at(1, reader.read_claim, NAMES, text)
            self.bad_at(3, reader.read_claim, NAMES, "#\n\n" + text + "\n)")

    def test_first_bad_word_tells_the_line(self):
        self.bad_at(3, reader.read_claim, NAMES, "a=s\nand\nor\nb")
        self.bad_at(4, reader.read_claim, NAMES, "(a=s\nand a=t)\n\n) and\nx")
        self.bad_at(2, reader.read_claim, NAMES, "a=s\nb=u\nand")
        self.bad_at(2, reader.read_claim, NAMES, "a=s\n:")

    def test_lacking(self):
        for text in ("", "not", "(", "a=s and", "(a=s", "((a=s)", "not (", "a=s or not", "# a=s", "(a=s and a=t"):
            self.bad_at(2, reader.read_claim, NAMES, text)
            self.bad_at(5, reader.read_claim, NAMES, text + "\n\n# more\n")

    def test_sixty_words_and_sixty_one(self):
        claim = ("again", 0, (0,))
        for _ in range(59):
            claim = ("not", claim)
        self.reads("not\n" * 59 + "a=s", claim)
        self.bad_at(61, reader.read_claim, NAMES, "not\n" * 60 + "a=s")
        self.bad_at(61, reader.read_claim, NAMES, "not\n" * 61 + "x")
        self.bad_at(61, reader.read_claim, NAMES, "(\n" * 60 + "(")
        self.bad_at(61, reader.read_claim, NAMES, "(\n" * 59 + "a=s")
        self.bad_at(60, reader.read_claim, NAMES, "not\n" * 59 + "or\nx")
        chain = ["a=s"] + ["and b=u"] * 29
        self.assertEqual(reader.read_claim(NAMES, "\n".join(chain))[0], "and")
        self.bad_at(32, reader.read_claim, NAMES, "\n".join(chain) + "\nand")
        self.bad_at(31, reader.read_claim, NAMES, "\n".join(chain + ["and b=u"]))
        brackets = "(" * 29 + "a=s" + ")" * 29
        self.reads(brackets, ("again", 0, (0,)))
        self.reads("not " + brackets, ("not", ("again", 0, (0,))))
        self.bad_at(1, reader.read_claim, NAMES, "not not " + brackets)


if __name__ == "__main__":
    unittest.main()
