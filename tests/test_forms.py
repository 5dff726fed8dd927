"""Tests of the forms [21]."""

import unittest

from oldletters import forms
from oldletters.runs import Run
from tests.samples import (
    BIG_NET, LATCH_NET, NETS, SELF_NET, THREE_NET, doubtful_kinds, exchanged, odd_values, random_nets, wrong_kinds)

PARTS = [
    ((2,), ((2, (0, 1), (("get", 0, (("go", 0), ("go", 1))),) * 2),), (0,)),
    ((), LATCH_NET[0], (0, 1)),
    ((3, 1), ((2, (0,), (("get", 2, (("go", 0), ("get", 3, (("go", 0),)))),)),
              (1, (0, 0), (("go", 1), ("get", 0, (("go", 0), ("go", 1), ("go", 1)))))), (1,)),
]


def number(thing):
    return type(thing) is int


def below(thing, many):
    return type(thing) is int and thing in range(many)


def up(thing, many, empty=False):
    if type(thing) is not tuple or not all(below(part, many) for part in thing):
        return False
    return list(thing) == sorted(set(thing)) and (empty or thing != ())


def shape(thing, kind, many):
    return type(thing) is kind and len(thing) == many


def plain_code(thing, states, many):
    if shape(thing, tuple, 2):
        return thing[0] == "go" and below(thing[1], states)
    if not shape(thing, tuple, 3) or thing[0] != "get" or not below(thing[1], len(many)):
        return False
    return shape(thing[2], tuple, many[thing[1]]) and all(plain_code(part, states, many) for part in thing[2])


def plain_workers(thing, foreign):
    if type(thing) is not tuple or not thing:
        return False
    for worker in thing:
        if not shape(worker, tuple, 3) or not number(worker[0]) or type(worker[1]) is not tuple:
            return False
        if not worker[1] or not all(below(letter, worker[0]) for letter in worker[1]):
            return False
        if not shape(worker[2], tuple, len(worker[1])):
            return False
    many = list(foreign) + [worker[0] for worker in thing]
    return all(plain_code(code, len(worker[1]), many) for worker in thing for code in worker[2])


def plain_net(thing):
    return shape(thing, tuple, 2) and plain_workers(thing[0], ()) and up(thing[1], len(thing[0]), True)


def plain_part(thing):
    if not shape(thing, tuple, 3) or type(thing[0]) is not tuple:
        return False
    if not all(number(many) and many > 0 for many in thing[0]):
        return False
    return plain_workers(thing[1], thing[0]) and up(thing[2], len(thing[1]))


def plain_lots(net, thing):
    return shape(thing, tuple, len(net[0])) and all(up(one, worker[0]) for one, worker in zip(thing, net[0]))


def plain_box(net, thing):
    return shape(thing, tuple, len(net[0])) and all(up(one, len(worker[1])) for one, worker in zip(thing, net[0]))


def plain_vector(net, thing):
    return shape(thing, tuple, len(net[0])) and all(
        below(one, len(worker[1])) for one, worker in zip(thing, net[0]))


def counts(thing):
    return type(thing) is tuple and all(number(part) and part >= 0 for part in thing)


def plain_deeds(net, thing):
    if type(thing) is not list:
        return False
    for deed in thing:
        fall = shape(deed, tuple, 2) and deed[0] == "fall"
        step = shape(deed, tuple, 3) and deed[0] == "step" and counts(deed[2])
        if not (fall or step) or not below(deed[1], len(net[0])) or (fall and deed[1] in net[1]):
            return False
    return True


def plain_endless(net, thing):
    if not shape(thing, tuple, 2) or not plain_deeds(net, thing[0]) or type(thing[1]) is not list or not thing[1]:
        return False
    return all(shape(step, tuple, 2) and below(step[0], len(net[0])) and counts(step[1]) for step in thing[1])


def plain_claim(net, thing):
    if shape(thing, tuple, 2) and thing[0] == "not":
        return plain_claim(net, thing[1])
    if not shape(thing, tuple, 3) or not isinstance(thing[0], str):
        return False
    if thing[0] == "again":
        return below(thing[1], len(net[0])) and up(thing[2], len(net[0][thing[1]][1]))
    return thing[0] in ("and", "or") and plain_claim(net, thing[1]) and plain_claim(net, thing[2])


def plain_sorts(net, thing):
    if not shape(thing, tuple, 3) or not all(up(part, len(net[0]), True) for part in thing):
        return False
    return len({worker for part in thing for worker in part}) == sum(len(part) for part in thing)


class Forms(unittest.TestCase):
    def is_right(self, tells, *things):
        self.assertIs(tells(*things), True, (tells, things))

    def is_wrong(self, tells, *things):
        self.assertIs(tells(*things), False, (tells, things))

    def check_all(self, tells, plain, good, *before):
        """Check a right value, the same with one part exchanged, and odd values."""
        self.is_right(tells, *before, good)
        for bad in exchanged(good, wrong_kinds):
            self.is_wrong(tells, *before, bad)
        seen = {True: 0, False: 0}
        for other in exchanged(good, doubtful_kinds):
            answer = tells(*before, other)
            self.assertIs(answer, plain(*before, other), (tells, other))
            seen[answer] += 1
        self.assertGreater(seen[False], 0)
        for odd in odd_values():
            if plain(*before, odd) is False:
                self.is_wrong(tells, *before, odd)

    def test_integer(self):
        for good in (0, 1, -1, 10 ** 39, -(10 ** 39)):
            self.is_right(forms.is_integer, good)
        for odd in odd_values():
            if type(odd) is not int:
                self.is_wrong(forms.is_integer, odd)

    def test_road(self):
        self.is_right(forms.is_road, "lossy")
        self.is_right(forms.is_road, "just")
        for odd in odd_values() + ["Lossy", "loss", "just\n", "", "lossyjust", ("lossy",), ["just"], b"just", 0]:
            self.is_wrong(forms.is_road, odd)

    def test_net(self):
        for net in NETS[:3]:
            self.check_all(forms.is_net, plain_net, net)
        self.is_right(forms.is_net, BIG_NET)
        for net in random_nets(40, steady=True):
            self.is_right(forms.is_net, net)

    def test_net_named_faults(self):
        workers = LATCH_NET[0]
        for steady in ((2,), (-1,), (1, 0), (0, 0), (0, 1, 1), [0], (True,), (False,), (None,), ("0",), None, 0):
            self.is_wrong(forms.is_net, (workers, steady))
        for steady in ((), (0,), (1,), (0, 1)):
            self.is_right(forms.is_net, (workers, steady))
        for net in (((), ()), (workers,), (workers, (), ()), [workers, ()], (list(workers), ()), {0: workers}):
            self.is_wrong(forms.is_net, net)
        for letters in (0, -1, True, None, "1"):
            self.is_wrong(forms.is_net, (((letters, (0,), (("go", 0),)),), ()))
        self.is_right(forms.is_net, (((1, (0,), (("go", 0),)),), ()))
        self.is_wrong(forms.is_net, (((1, (), ()),), ()))

    def test_nets_beyond_the_bounds(self):
        code = ("go", 0)
        for _ in range(9):
            code = ("get", 0, (code, ("go", 8)))
        big = tuple((2, (0, 1) * 5, (code,) * 10) for _ in range(9))
        self.is_right(forms.is_net, (big, tuple(range(9))))
        self.is_wrong(forms.is_net, (big, tuple(range(10))))
        self.is_right(forms.is_part, ((4, 4, 4, 4), (((1, (0,), (("go", 0),))),) * 9, tuple(range(9))))

    def test_code(self):
        code = THREE_NET[0][0][2][0]
        self.check_all(lambda thing: forms.is_code(THREE_NET, 0, thing),
                       lambda thing: plain_code(thing, 2, (3, 1, 2)), code)
        code = THREE_NET[0][1][2][2]
        self.check_all(lambda thing: forms.is_code(THREE_NET, 1, thing),
                       lambda thing: plain_code(thing, 3, (3, 1, 2)), code)
        self.is_right(forms.is_code, THREE_NET, 1, ("go", 2))
        self.is_wrong(forms.is_code, THREE_NET, 0, ("go", 2))

    def test_lots_box_vector(self):
        lots = ((0, 2), (0,), (0, 1))
        self.check_all(forms.is_lots, plain_lots, lots, THREE_NET)
        self.check_all(forms.is_box, plain_box, ((0, 1), (0, 2), (1,)), THREE_NET)
        self.check_all(forms.is_vector, plain_vector, (1, 2, 0), THREE_NET)
        self.check_all(forms.is_vector, plain_vector, (1, 0), LATCH_NET)
        for bad in (((0, 2), (0,)), ((2, 0), (0,), (0, 1)), ((0, 0), (0,), (0, 1)), ((0,), (), (0,)), ()):
            self.is_wrong(forms.is_lots, THREE_NET, bad)
            self.is_wrong(forms.is_box, THREE_NET, bad)

    def test_deeds(self):
        deeds = [("step", 0, (1, 0, 10 ** 39)), ("fall", 1), ("step", 2, ()), ("fall", 0)]
        self.check_all(forms.is_deeds, plain_deeds, deeds, THREE_NET)
        self.is_right(forms.is_deeds, THREE_NET, [])
        self.is_wrong(forms.is_deeds, THREE_NET, [("fall", 2)])
        self.is_right(forms.is_deeds, (THREE_NET[0], ()), [("fall", 2)])
        self.is_wrong(forms.is_deeds, THREE_NET, ())
        for bad in (("fall", 0, ()), ("step", 0), ("fall", 3), ("step", 3, ()), ("step", 0, (-1,)),
                    ("step", 0, [0]), ("step", True, ()), ("fall", False), ("Fall", 0), ["fall", 0]):
            self.is_wrong(forms.is_deeds, THREE_NET, [bad])

    def test_endless(self):
        endless = ([("step", 0, (0,)), ("fall", 1)], [(0, (1, 0)), (2, ())])
        self.check_all(forms.is_endless, plain_endless, endless, THREE_NET)
        self.is_right(forms.is_endless, THREE_NET, ([], [(2, (10 ** 39,))]))
        self.is_wrong(forms.is_endless, THREE_NET, ([], []))
        self.is_wrong(forms.is_endless, THREE_NET, ([("fall", 2)], [(0, ())]))
        self.is_wrong(forms.is_endless, THREE_NET, ([], [(3, ())]))

    def test_claim(self):
        claim = ("or", ("not", ("again", 1, (0, 2))), ("and", ("again", 0, (1,)), ("not", ("not", ("again", 2, (0,))))))
        self.check_all(forms.is_claim, plain_claim, claim, THREE_NET)
        long = ("again", 0, (1,))
        for _ in range(60):
            long = ("not", long)
        self.is_right(forms.is_claim, THREE_NET, long)
        for bad in (("again", 0, ()), ("again", 0, (2,)), ("again", 3, (0,)), ("again", 1, (1, 0)),
                    ("not", long, long), ("and", long), ("or", long, long, long), ("xor", long, long)):
            self.is_wrong(forms.is_claim, THREE_NET, bad)

    def test_sorts(self):
        self.check_all(forms.is_sorts, plain_sorts, ((0,), (), (1, 2)), THREE_NET)
        self.check_all(forms.is_sorts, plain_sorts, ((0, 3), (1, 6), (2,)), BIG_NET)
        self.is_right(forms.is_sorts, THREE_NET, ((), (), ()))
        for bad in (((0,), (0,), ()), ((0,), (), (0,)), ((), (1,), (1,)), ((1, 0), (), ()), ((0, 0), (), ()),
                    ((3,), (), ()), ((), ()), ((), (), (), ()), ([], (), ())):
            self.is_wrong(forms.is_sorts, THREE_NET, bad)

    def test_part(self):
        for part in PARTS:
            self.check_all(forms.is_part, plain_part, part)
        foreign, workers, shown = PARTS[1]
        for bad in ((foreign, workers, ()), (foreign, workers, (1, 0)), (foreign, workers, (2,)),
                    (foreign, (), (0,)), ((0,), workers, shown), ((True,), workers, shown), ([], workers, shown)):
            self.is_wrong(forms.is_part, bad)

    def test_odd_values_everywhere(self):
        for net in (SELF_NET, THREE_NET):
            for odd in odd_values() + [Run(net)]:
                for tells, plain in ((forms.is_lots, plain_lots), (forms.is_box, plain_box),
                                     (forms.is_vector, plain_vector), (forms.is_deeds, plain_deeds),
                                     (forms.is_endless, plain_endless), (forms.is_claim, plain_claim),
                                     (forms.is_sorts, plain_sorts)):
                    self.assertIs(tells(net, odd), plain(net, odd))
                self.assertIs(forms.is_net(odd), False)
                self.assertIs(forms.is_part(odd), False)
                self.assertIs(forms.is_code(net, 0, odd), False)


if __name__ == "__main__":
    unittest.main()
