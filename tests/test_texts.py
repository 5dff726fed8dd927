"""Tests of the texts [25]."""

import unittest

from oldletters import texts
from tests.samples import LATCH_NET, NETS, SELF_NET, THREE_NET, odd_values, paths_in, part_at, with_part

WORDS = (("get", "go", "not"), (("and", "or", "code"), ("worker",), ("steady", "get")),
         (("go", "not"), ("and", "or", "code"), ("worker", "steady")))


class Names(unittest.TestCase):
    def test_right(self):
        self.assertIs(texts.is_names(THREE_NET, WORDS), True)
        for net in NETS:
            self.assertIs(texts.is_names(net, texts.default_names(net)), True)
        same = (("a", "b"), (("a", "b"), ("a", "b")), (("a", "b"), ("a", "b")))
        self.assertIs(texts.is_names(LATCH_NET, same), True)
        long = (("a0_", "zz__9"), (("a", "b"), ("z9", "z_")), (("x" * 500, "y"), ("a", "aa")))
        self.assertIs(texts.is_names(LATCH_NET, long), True)

    def test_one_name_exchanged(self):
        bad = ["", "A", "aB", "Ab", "0", "0a", "_", "_a", "a\n", "\na", "a b", " a", "a ", "a-b", "a.b", "a:", "a#",
               "\u00e9", "a\u00e9", "a\u0661", "\u00aa", None, True, 0, ("a",), ["a"], b"a", {}]
        for path in paths_in(WORDS):
            if isinstance(part_at(WORDS, path), str):
                for name in bad:
                    self.assertIs(texts.is_names(THREE_NET, with_part(WORDS, path, name)), False, (path, name))
                self.assertIs(texts.is_names(THREE_NET, with_part(WORDS, path, "other_1")), True)

    def test_one_tuple_exchanged(self):
        for path in paths_in(WORDS):
            part = part_at(WORDS, path)
            if isinstance(part, tuple):
                for bad in (list(part), part[:-1], part + part[:1], part + ("more",), (), None, "ab", {0: 1}):
                    self.assertIs(texts.is_names(THREE_NET, with_part(WORDS, path, bad)), False, (path, bad))

    def test_same_name_twice(self):
        for path in (((0,)), (1, 0), (1, 2), (2, 0), (2, 1)):
            names = part_at(WORDS, path)
            twice = names[:-1] + names[:1]
            self.assertIs(texts.is_names(THREE_NET, with_part(WORDS, path, twice)), False)

    def test_odd_values(self):
        for net in NETS:
            for odd in odd_values():
                self.assertIs(texts.is_names(net, odd), False)

    def test_default_names(self):
        self.assertEqual(texts.default_names(THREE_NET), (
            ("w0", "w1", "w2"), (("l0", "l1", "l2"), ("l0",), ("l0", "l1")),
            (("s0", "s1"), ("s0", "s1", "s2"), ("s0", "s1"))))


class Texts(unittest.TestCase):
    def test_example(self):
        text = "steady w0: l0 l1\n  s0: l1\ncode w0\n  s0: get w0\n    l0: go s0\n    l1: go s0"
        self.assertEqual(texts.show_net(texts.default_names(SELF_NET), SELF_NET), text)

    def test_code(self):
        self.assertEqual(texts.show_code(WORDS, 2, ("go", 1)), "go steady")
        code = THREE_NET[0][0][2][0]
        self.assertEqual(texts.show_code(WORDS, 0, code), "\n".join([
            "get not", "  steady: go go", "  get: get get", "    and: go not", "    or: go go", "    code: go not"]))
        self.assertEqual(texts.show_code(WORDS, 1, code), "\n".join([
            "get not", "  steady: go and", "  get: get get", "    and: go or", "    or: go and", "    code: go or"]))

    def test_net_with_words_of_the_language(self):
        self.assertEqual(texts.show_net(WORDS, THREE_NET).split("\n"), [
            "worker get: and or code", "  go: and", "  not: code",
            "worker go: worker", "  and: worker", "  or: worker", "  code: worker",
            "steady not: steady get", "  worker: get", "  steady: steady",
            "code get", "  go: get not", "    steady: go go", "    get: get get", "      and: go not",
            "      or: go go", "      code: go not", "  not: go go",
            "code go", "  and: go or", "  or: get go", "    worker: go code",
            "  code: get get", "    and: go and", "    or: go or", "    code: go code",
            "code not", "  worker: get not", "    steady: go worker", "    get: go steady", "  steady: go worker",
        ])

    def test_steady_workers(self):
        text = texts.show_net(texts.default_names(LATCH_NET), (LATCH_NET[0], (0, 1)))
        heads = [line.split(":")[0] for line in text.split("\n") if not line.startswith(" ")]
        self.assertEqual(heads, ["steady w0", "steady w1", "code w0", "code w1"])

    def test_box(self):
        self.assertEqual(texts.show_box(WORDS, ((0, 1), (2,), (0,))), "get: go not\ngo: code\nnot: worker")

    def test_claim(self):
        again = ("again", 1, (0, 2))
        other = ("again", 0, (1,))
        self.assertEqual(texts.show_claim(WORDS, again), "go=and,code")
        self.assertEqual(texts.show_claim(WORDS, ("not", ("not", other))), "not not get=not")
        self.assertEqual(texts.show_claim(WORDS, ("or", ("and", again, ("not", other)), ("not", ("or", other, again)))),
                         "((go=and,code and not get=not) or not (get=not or go=and,code))")


if __name__ == "__main__":
    unittest.main()
