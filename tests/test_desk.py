"""Desks: [14.4] to [14.7]."""

import itertools
import random
import unittest

from primekinds.desk.desk import MAX_NAMES, MAX_PROMISES, RULES, Desk
from primekinds.errors import Refused
from primekinds.group.groups import Group
from primekinds.group.parts import Part, parts
from primekinds.kind.kinds import Kind
from primekinds.maps.kept import greatest_kept, is_kept
from tests.helper import (
    all_images, elements_of, error_of, is_like, kind_of, led_to, made_by, odd_ones, odd_values, paper_values, rest_of,
)

NINES = 10 ** 60 - 1
G = Group(2, Kind((2, 1)))
TURN, HALF, NONE, ALL = Part(G, ((1, 1),)), Part(G, ((2, 0),)), Part(G, ()), Part(G, G.base)
NO_NAMES = ("", "abcdefghi", "A", "a1", "a b", "a_", " a", "a\n", "\n", "aB", "a-b", "z" * 3000, "1", ".")
NAMES = ("a", "bb", "ccc", "dddd", "e", "f")


def state_of(desk):
    """All that a desk tells, and what it tells when its deeds are taken back and done again."""
    return told_by(desk), [told_by(other) for other in history_of(desk)]


def told_by(desk):
    return (
        desk.names, desk.labels, desk.deeds, len(desk), str(desk),
        tuple((name, desk.part_under(name).table, desk.rule(name), desk.hanging(name)) for name in desk.names),
        tuple((label, desk.promised(label)) for label in desk.labels),
    )


def history_of(desk):
    """Twins of a desk after each number of its deeds, those that can be done again as well."""
    twin = desk.twin()
    twin.undo(many=twin.deeds)
    found = [twin.twin()]
    while error_of(lambda: twin.redo())[0] == "no error":
        found.append(twin.twin())
    return found


class Book:
    """What a desk keeps, by sets of elements."""

    def __init__(self, prime, row):
        self.prime, self.row = prime, row
        self.every = elements_of(prime, row)
        self.own = [
            [(one, led_to(prime, row, images, one)) for one in self.every] for images in all_images(prime, row, row)
        ]
        self.parts, self.rules, self.promises = {}, {}, {}

    def copy(self):
        other = Book.__new__(Book)
        other.prime, other.row, other.every, other.own = self.prime, self.row, self.every, self.own
        other.parts, other.rules, other.promises = dict(self.parts), dict(self.rules), dict(self.promises)
        return other

    def side(self, part):
        height = max(self.row)
        return frozenset(
            one for one in self.every
            if all(
                sum(
                    x * y * self.prime ** (height - n) for x, y, n in zip(one, other, self.row)
                ) % self.prime ** height == 0
                for other in part
            )
        )

    def is_kept(self, part):
        return all(leads in part for own in self.own for one, leads in own if one in part)

    def inner_kept(self, part):
        # What all own maps lead into the part.
        return frozenset(one for one in part if all(dict(own)[one] in part for own in self.own))

    def settle(self):
        for _ in self.parts:
            for name, rule in self.rules.items():
                if rule is not None:
                    some = [self.parts[other] for other in rule[1:]]
                    if rule[0] == "side":
                        self.parts[name] = self.side(some[0])
                    elif rule[0] == "kept":
                        self.parts[name] = self.inner_kept(some[0])
                    elif rule[0] == "met":
                        self.parts[name] = some[0] & some[1]
                    else:
                        self.parts[name] = made_by(self.prime, self.row, list(some[0]) + list(some[1]))

    def is_true(self, promise):
        names = promise[1:] if promise[0] in ("same", "within", "beside") else promise[1:2]
        if any(name not in self.parts for name in names):
            return False
        some = [self.parts[name] for name in names]
        if promise[0] == "same":
            return some[0] == some[1]
        if promise[0] == "within":
            return some[0] <= some[1]
        if promise[0] == "beside":
            return len(some[0] & some[1]) == 1 and len(some[0]) * len(some[1]) == len(self.every)
        if promise[0] == "kept":
            return self.is_kept(some[0])
        if promise[0] == "has":
            return promise[2] in some[0]
        return (kind_of if promise[0] == "kind" else rest_of)(self.prime, self.row, some[0]) == promise[2]

    def hanging(self, name):
        found = set()
        for _ in self.rules:
            for other, rule in self.rules.items():
                if rule is not None and any(one == name or one in found for one in rule[1:]):
                    found.add(other)
        return found

    def broken(self):
        return sorted(label for label, promise in self.promises.items() if not self.is_true(promise))

    def after(self, deed):
        """The book after a deed, or the error."""
        book, word, given = self.copy(), deed[0], deed[1:]
        error = getattr(book, "do_" + word)(*given)
        if error is None and book.broken():
            error = ("Refused", ("promise", book.broken()[0]))
        return (None, error) if error is not None else (book, None)

    def do_put(self, name, part):
        if name not in self.parts and len(self.parts) == 12:
            return ("TooMany", 12)
        self.parts[name], self.rules[name] = frozenset(part), None
        self.settle()

    def do_follow(self, name, rule, *others):
        for other in others:
            if other not in self.parts:
                return ("UnknownName", other)
        for other in others:
            if other == name or other in self.hanging(name):
                return ("Refused", ("ring", other))
        if name not in self.parts and len(self.parts) == 12:
            return ("TooMany", 12)
        self.rules[name], self.parts[name] = (rule, *others), frozenset()
        self.settle()

    def do_drop(self, name):
        if name not in self.parts:
            return ("UnknownName", name)
        direct = sorted(other for other, rule in self.rules.items() if rule is not None and name in rule[1:])
        if direct:
            return ("Refused", ("followed", tuple(direct)))
        del self.parts[name], self.rules[name]

    def do_promise(self, label, promise):
        if label in self.promises:
            return ("Refused", ("label", label))
        if len(self.promises) == 12:
            return ("TooMany", 12)
        self.promises[label] = promise

    def do_free(self, label):
        if label not in self.promises:
            return ("UnknownName", label)
        del self.promises[label]


def some_deed(draw, every, names=NAMES, labels=("p", "q", "r", "s")):
    """A deed with drawn arguments."""
    word = draw.choice(("put", "put", "follow", "follow", "follow", "drop", "promise", "promise", "free"))
    if word == "put":
        return word, draw.choice(names), draw.choice(every)
    if word == "follow":
        rule = draw.choice(RULES)
        return (word, draw.choice(names), rule) + tuple(
            draw.choice(names) for _ in range(2 if rule in ("joined", "met") else 1)
        )
    if word == "drop":
        return word, draw.choice(names)
    if word == "free":
        return word, draw.choice(labels)
    x, y, part = draw.choice(names), draw.choice(names), draw.choice(every)
    return word, draw.choice(labels), draw.choice((
        ("same", x, y), ("within", x, y), ("beside", x, y), ("kind", x, part.kind.numbers),
        ("rest", x, part.rest.numbers),
        ("kept", x), ("has", x, draw.choice(list(part))),
    ))


def do(desk, deed):
    return error_of(getattr(desk, deed[0]), *deed[1:])


class AgainstABook(unittest.TestCase):
    def test_deeds(self):
        done = refused = 0
        for seed, (prime, row) in enumerate(
            ((2, (2, 1)), (2, (3, 1)), (2, (1, 1)), (3, (2,)), (2, (2, 1, 1)), (3, (1, 1)), (2, (2, 1)))
        ):
            draw = random.Random(seed)
            group = Group(prime, Kind(row))
            every, book, desk = list(parts(group)), Book(prime, row), Desk(group)
            for _ in range(60 if prime ** sum(row) < 16 else 30):
                deed = some_deed(draw, every)
                after, error = book.after(deed)
                got = do(desk, deed)
                if error is not None:
                    refused += 1
                    self.assertTrue(is_like(got, error), (deed, got, error))
                else:
                    done += 1
                    book = after
                    self.assertTrue(is_like(got, ("no error", desk.deeds)), (deed, got))
                self.check(desk, book)
        self.assertGreater(done, 120)
        self.assertGreater(refused, 60)

    def check(self, desk, book):
        self.assertEqual(desk.names, tuple(sorted(book.parts)))
        self.assertEqual(desk.labels, tuple(sorted(book.promises)))
        for name in desk.names:
            self.assertEqual(set(desk.part_under(name)), book.parts[name])
            self.assertEqual(desk.rule(name), book.rules[name])
            self.assertEqual(desk.hanging(name), tuple(sorted(book.hanging(name))))
        for label in desk.labels:
            self.assertEqual(desk.promised(label), book.promises[label])

    def test_broken_by(self):
        draw = random.Random(77)
        every, book, desk = list(parts(G)), Book(2, (2, 1)), Desk(G)
        found = set()
        for _ in range(250):
            deed = some_deed(draw, every)
            after, error = book.after(deed)
            if error is None:
                book = after
                do(desk, deed)
            name, part = draw.choice(NAMES), draw.choice(every)
            other = book.copy()
            other.do_put(name, part)
            kept = told_by(desk)
            self.assertTrue(is_like(desk.broken_by(name, part), tuple(other.broken())))
            self.assertEqual(told_by(desk), kept)
            found.add(len(other.broken()))
        self.assertTrue({0, 1, 2} <= found)

    def test_twelve_names_and_twelve_promises(self):
        draw = random.Random(5)
        every, book, desk = list(parts(G)), Book(2, (2, 1)), Desk(G)
        names = [letter * 2 for letter in "abcdefghijklmn"]
        for _ in range(200):
            deed = some_deed(draw, every, names, "abcdefghijklmnop")
            after, error = book.after(deed)
            got = do(desk, deed)
            self.assertTrue(got[0] == "no error" if error is None else is_like(got, error), (deed, got, error))
            book = book if error is not None else after
        self.check(desk, book)


class UndoAndRedo(unittest.TestCase):
    def test_against_a_new_desk(self):
        for seed in range(6):
            draw = random.Random(seed + 100)
            group = (G, Group(2, Kind((3, 1))), Group(3, Kind((1, 1))))[seed % 3]
            every, desk = list(parts(group)), Desk(group)
            stand, back = [], []
            for _ in range(120):
                many = draw.choice((0, 1, 1, 1, 2, 3, 9))
                word = draw.choice(("deed", "deed", "deed", "undo", "redo"))
                if word == "undo":
                    got = error_of(lambda: desk.undo(many=many))
                    if many > len(stand):
                        self.assertEqual(got, ("NothingToUndo", many))
                    else:
                        back = stand[len(stand) - many:] + back
                        stand = stand[:len(stand) - many]
                        self.assertTrue(is_like(got, ("no error", len(stand))))
                elif word == "redo":
                    got = error_of(lambda: desk.redo(many=many))
                    if many > len(back):
                        self.assertEqual(got, ("NothingToUndo", many))
                    else:
                        stand, back = stand + back[:many], back[many:]
                        self.assertTrue(is_like(got, ("no error", len(stand))))
                else:
                    deed = some_deed(draw, every)
                    if do(desk, deed)[0] == "no error":
                        stand, back = stand + [deed], []
                other = Desk(group)
                for deed in stand:
                    self.assertEqual(do(other, deed)[0], "no error")
                self.assertEqual(desk.deeds, len(stand))
                self.assertTrue(desk == other and told_by(desk) == told_by(other))
                self.assertEqual(
                    error_of(lambda: desk.twin().redo(many=len(back) + 1)), ("NothingToUndo", len(back) + 1)
                )

    def test_edges(self):
        desk = Desk(G)
        for call in (desk.undo, desk.redo):
            self.assertEqual(error_of(call), ("NothingToUndo", 1))
            self.assertEqual(call(many=0), 0)
            self.assertEqual(error_of(lambda: call(many=NINES)), ("NothingToUndo", NINES))
            for value in odd_values() + (-1, -NINES):
                self.assertTrue(is_like(error_of(lambda: call(many=value)), ("InvalidNumber", value)))
            self.assertEqual(error_of(lambda: call(1)), ("TypeError",))
        self.assertEqual((desk.put("x", TURN), desk.put("x", TURN), desk.put("y", HALF)), (1, 2, 3))
        self.assertEqual(
            (desk.undo(), desk.undo(many=2), desk.redo(), desk.redo(many=0), desk.redo(many=2)), (2, 0, 1, 1, 3)
        )
        self.assertEqual((desk.undo(), desk.undo(many=0), desk.redo(), desk.undo(many=3), desk.deeds), (2, 2, 3, 0, 0))

    def test_after_another_deed_nothing_can_be_done_again(self):
        desk = Desk(G)
        desk.put("x", TURN)
        desk.put("y", HALF)
        desk.undo()
        self.assertEqual(error_of(desk.drop, "y"), ("UnknownName", "y"))
        self.assertEqual(error_of(lambda: desk.twin().redo()), ("no error", 2))
        desk.put("z", HALF)
        self.assertEqual(error_of(desk.redo), ("NothingToUndo", 1))
        self.assertEqual((desk.names, desk.deeds), (("x", "z"), 2))


def full_desk():
    """A desk with names, rules, promises, deeds to take back and deeds to do again."""
    desk = Desk(G)
    desk.put("x", TURN)
    desk.follow("y", "side", "x")
    desk.follow("z", "met", "x", "y")
    desk.promise("p", ("kind", "y", (1,)))
    desk.promise("q", ("within", "z", "x"))
    desk.put("w", ALL)
    desk.follow("v", "kept", "w")
    desk.undo(many=2)
    return desk


class NothingChanges(unittest.TestCase):
    def test_deeds_that_raise_errors(self):
        desk = full_desk()
        before, twin = state_of(desk), desk.twin()
        for call, told in (
            (lambda: desk.put("X", TURN), ("InvalidOperation",)), (lambda: desk.put("x", None), ("InvalidPart",)),
            (lambda: desk.put("x", NONE), ("Refused", ("promise", "p"))),
            (lambda: desk.drop("n"), ("UnknownName", "n")),
            (lambda: desk.drop("x"), ("Refused", ("followed", ("y", "z")))),
            (lambda: desk.drop("z"), ("Refused", ("promise", "q"))),
            (lambda: desk.follow("x", "side", "z"), ("Refused", ("ring", "z"))),
            (lambda: desk.follow("y", "met", "x", "x"), ("Refused", ("promise", "p"))),
            (lambda: desk.follow("x", "side", "n"), ("UnknownName", "n")),
            (lambda: desk.follow("x", "no", "z"), ("InvalidOperation",)),
            (lambda: desk.promise("p", ("kept", "x")), ("Refused", ("label", "p"))),
            (lambda: desk.promise("r", ("kept", "x")), ("Refused", ("promise", "r"))),
            (lambda: desk.free("r"), ("UnknownName", "r")),
            (lambda: desk.promise("r", ("x",)), ("InvalidOperation",)),
            (lambda: desk.undo(many=9), ("NothingToUndo", 9)),
            (lambda: desk.redo(many=3), ("NothingToUndo", 3)), (lambda: desk.undo(many=-1), ("InvalidNumber", -1)),
            (lambda: desk.broken_by("x", 5), ("InvalidPart",)), (lambda: desk.part_under("n"), ("UnknownName", "n")),
        ):
            self.assertEqual(error_of(call), told)
            self.assertEqual(state_of(desk), before)
            self.assertEqual(desk, twin)

    def test_during(self):
        desk = full_desk()
        before = state_of(desk)

        def some(one):
            self.assertIs(one, desk)
            one.redo()
            one.put("u", HALF)
            one.undo(many=one.deeds)
            one.put("x", HALF)
            return one.deeds, one.names

        self.assertEqual(desk.during(some), (1, ("x",)))
        self.assertEqual(state_of(desk), before)

        def wrong(one):
            one.undo(many=3)
            one.put("a", ALL)
            one.put("a", 5)

        def own(one):
            one.free("p")
            raise ZeroDivisionError("own")

        self.assertEqual(error_of(desk.during, wrong), ("InvalidPart",))
        self.assertEqual(state_of(desk), before)
        with self.assertRaises(ZeroDivisionError):
            desk.during(own)
        self.assertEqual(state_of(desk), before)
        self.assertEqual(desk.during(lambda one: one.during(lambda two: two.put("x", TURN)) + one.free("p")), 12)
        self.assertEqual(state_of(desk), before)
        self.assertIs(desk.during(lambda one: None), None)
        self.assertEqual((desk.redo(many=2), desk.names), (7, ("v", "w", "x", "y", "z")))

    def test_twins(self):
        desk = full_desk()
        before, twin = state_of(desk), desk.twin()
        self.assertEqual(state_of(twin), before)
        self.assertTrue(twin == desk)
        twin.free("p")
        twin.put("x", NONE)
        self.assertEqual(state_of(desk), before)
        self.assertFalse(twin == desk)
        self.assertEqual(error_of(twin.redo), ("NothingToUndo", 1))
        other = desk.twin()
        desk.undo(many=5)
        self.assertEqual(state_of(other)[0], before[0])
        self.assertEqual((other.redo(many=2), other.deeds, desk.deeds), (7, 7, 0))

    def test_what_is_returned_and_passed(self):
        desk = full_desk()
        others = ["x", "y"]
        desk.follow("u", "joined", *others)
        others.clear()
        self.assertEqual(desk.rule("u"), ("joined", "x", "y"))
        self.assertEqual((TURN, HALF), (Part(G, ((1, 1),)), Part(G, ((2, 0),))))


class Putting(unittest.TestCase):
    def test_names(self):
        for name in ("a", "z", "abcdefgh", "zzzzzzzz"):
            self.assertEqual(Desk(G).put(name, TURN), 1)
        for value in odd_values() + NO_NAMES + (b"a", ("a",), ["a"]):
            desk = Desk(G)
            desk.put("a", TURN)
            for call in (
                lambda: desk.put(value, 5), lambda: desk.follow(value, "no", "q"), lambda: desk.promise(value, 5),
                lambda: desk.broken_by(value, 5), lambda: desk.put(value, TURN),
                lambda: desk.follow(value, "side", "a"),
                lambda: desk.promise(value, ("kept", "a")),
            ):
                self.assertEqual(error_of(call), ("InvalidOperation",), value)
            for call in (desk.drop, desk.free, desk.part_under, desk.rule, desk.hanging, desk.promised):
                self.assertTrue(is_like(error_of(call, value), ("UnknownName", value)), value)
            self.assertTrue(is_like(error_of(desk.follow, "b", "side", value), ("UnknownName", value)))
            self.assertTrue(is_like(error_of(desk.follow, "b", "met", value, 5), ("UnknownName", value)))
            self.assertTrue(is_like(error_of(desk.follow, "b", "met", "a", value), ("UnknownName", value)))
            self.assertIs(value in desk, False)

    def test_parts(self):
        desk = Desk(G)
        for value in odd_values() + (
            TURN.table, 2, Part(Group(2, Kind((2, 2))), ()), Part(Group(3, Kind((2, 1))), ()), [TURN]
        ):
            self.assertEqual(error_of(desk.put, "a", value), ("InvalidPart",))
            self.assertEqual(error_of(desk.broken_by, "a", value), ("InvalidPart",))
        self.assertEqual(desk.put("a", Part(Group(2, Kind((2, 1))), ((1, 1),))), 1)
        self.assertEqual(desk.part_under("a"), TURN)

    def test_twelve_names(self):
        desk, names = Desk(G), "abcdefghijkl"
        for many, name in enumerate(names, start=1):
            self.assertEqual(desk.put(name, TURN) if many % 2 else desk.follow(name, "side", "a"), many)
        self.assertEqual((len(desk), desk.names, MAX_NAMES, MAX_PROMISES), (12, tuple(names), 12, 12))
        self.assertEqual(error_of(desk.put, "m", TURN), ("TooMany", 12))
        self.assertEqual(error_of(desk.follow, "m", "side", "a"), ("TooMany", 12))
        self.assertEqual(error_of(desk.put, "m", 5), ("InvalidPart",))
        self.assertEqual(error_of(desk.follow, "m", "side", "m"), ("UnknownName", "m"))
        self.assertEqual(desk.broken_by("m", HALF), ())
        self.assertEqual(
            (desk.put("l", HALF), desk.follow("l", "kept", "a"), desk.drop("k"), desk.put("m", TURN)), (13, 14, 15, 16)
        )

    def test_a_put_name_follows_none(self):
        desk = Desk(G)
        desk.put("x", TURN)
        desk.follow("y", "side", "x")
        desk.follow("z", "side", "y")
        desk.put("y", HALF)
        self.assertEqual(
            (desk.rule("y"), desk.rule("z"), desk.hanging("x"), desk.hanging("y")), (None, ("side", "y"), (), ("z",))
        )
        self.assertEqual(desk.part_under("z"), HALF.other_side)
        self.assertEqual(desk.follow("x", "side", "z"), 5)
        self.assertEqual(desk.part_under("x"), HALF)


class Following(unittest.TestCase):
    def test_rules(self):
        self.assertEqual(RULES, ("joined", "kept", "met", "side"))
        some = list(parts(Group(2, Kind((3, 1)))))
        for one, other in itertools.product(some, repeat=2):
            desk = Desk(Group(2, Kind((3, 1))))
            desk.put("a", one)
            desk.put("b", other)
            for name, rule, others, told in (
                ("c", "side", ("a",), one.other_side), ("d", "kept", ("a",), greatest_kept(one)),
                ("e", "joined", ("a", "b"), one | other), ("f", "met", ("a", "b"), one & other),
                ("g", "met", ("a", "a"), one), ("h", "joined", ("b", "b"), other),
            ):
                desk.follow(name, rule, *others)
                self.assertEqual((desk.part_under(name), desk.rule(name)), (told, (rule, *others)))
            self.assertEqual(desk.hanging("a"), ("c", "d", "e", "f", "g"))

    def test_wrong_rules(self):
        desk = Desk(G)
        desk.put("a", TURN)
        for given in (
            ("side",), ("side", "a", "a"), ("kept",), ("kept", "a", "a"), ("met",), ("met", "a"),
            ("met", "a", "a", "a"),
            ("joined",), ("joined", "a"), ("joined", "a", "a", "a"), ("Side", "a"), ("sides", "a"), ("", "a"),
            ("side", "n", "n"),
        ):
            self.assertEqual(error_of(desk.follow, "b", *given), ("InvalidOperation",), given)
        for value in odd_values():
            self.assertEqual(error_of(desk.follow, "b", value, "a"), ("InvalidOperation",))
            self.assertEqual(error_of(desk.follow, "b", value), ("InvalidOperation",))

    def test_rings(self):
        desk = Desk(G)
        desk.put("a", TURN)
        desk.follow("b", "side", "a")
        desk.follow("c", "met", "b", "b")
        desk.follow("d", "joined", "a", "c")
        desk.put("e", HALF)
        for name, rule, others, told in (
            ("a", "side", ("a",), "a"), ("a", "side", ("b",), "b"), ("a", "met", ("c", "d"), "c"),
            ("a", "met", ("e", "d"), "d"),
            ("b", "kept", ("d",), "d"), ("c", "side", ("d",), "d"), ("b", "joined", ("e", "b"), "b"),
            ("e", "side", ("e",), "e"),
            ("d", "met", ("d", "d"), "d"),
        ):
            self.assertEqual(error_of(desk.follow, name, rule, *others), ("Refused", ("ring", told)))
        self.assertEqual(error_of(desk.follow, "a", "met", "a", "n"), ("UnknownName", "n"))
        self.assertEqual(desk.follow("d", "met", "c", "e"), 6)
        self.assertEqual((desk.hanging("a"), desk.hanging("e")), (("b", "c", "d"), ("d",)))
        self.assertEqual(desk.follow("c", "side", "e"), 7)
        self.assertEqual((desk.hanging("a"), desk.hanging("e")), (("b",), ("c", "d")))

    def test_long_chains(self):
        group = Group(2, Kind((3, 1)))
        desk = Desk(group)
        desk.put("l", Part(group, ((2, 1),)))
        names = "lkjihgfedcba"
        for ahead, name in zip(names, names[1:]):
            desk.follow(name, "side", ahead)
        for part in parts(group):
            desk.put("l", part)
            for k, name in enumerate(names):
                self.assertEqual(desk.part_under(name), part.other_side if k % 2 else part)
        self.assertEqual(desk.hanging("l"), tuple(sorted(names[1:])))

    def test_what_holds_always(self):
        group = Group(2, Kind((3, 1)))
        desk = Desk(group)
        every = list(parts(group))
        desk.put("x", every[0])
        desk.put("u", every[1])
        for deed in (
            ("y", "side", "x"), ("z", "side", "y"), ("j", "joined", "x", "u"), ("s", "side", "j"), ("v", "side", "u"),
            ("m", "met", "y", "v"), ("k", "kept", "x"),
        ):
            desk.follow(*deed)
        desk.promise("a", ("same", "x", "z"))
        desk.promise("b", ("same", "s", "m"))
        desk.promise("c", ("within", "k", "x"))
        desk.promise("d", ("kept", "k"))
        for one, other in itertools.product(every, repeat=2):
            self.assertEqual(error_of(desk.put, "x", one)[0], "no error")
            self.assertEqual(error_of(desk.put, "u", other)[0], "no error")
            self.assertTrue(is_kept(desk.part_under("k")))


class Dropping(unittest.TestCase):
    def test_dropped(self):
        desk = Desk(G)
        desk.put("a", TURN)
        desk.follow("c", "met", "a", "a")
        desk.follow("b", "side", "a")
        desk.follow("d", "side", "b")
        self.assertEqual(error_of(desk.drop, "a"), ("Refused", ("followed", ("b", "c"))))
        self.assertEqual(error_of(desk.drop, "b"), ("Refused", ("followed", ("d",))))
        desk.promise("p", ("within", "d", "c"))
        desk.promise("o", ("same", "c", "c"))
        self.assertEqual(error_of(desk.drop, "c"), ("Refused", ("promise", "o")))
        self.assertEqual(error_of(desk.drop, "d"), ("Refused", ("promise", "p")))
        self.assertEqual(
            (desk.free("o"), desk.free("p"), desk.drop("c"), desk.drop("d"), desk.drop("b"), desk.drop("a")),
            (7, 8, 9, 10, 11, 12)
        )
        self.assertEqual((desk.names, desk.labels, len(desk), desk == Desk(G)), ((), (), 0, True))
        self.assertEqual(error_of(desk.drop, "a"), ("UnknownName", "a"))


class Promising(unittest.TestCase):
    def test_forms(self):
        desk = Desk(G)
        desk.put("x", TURN)
        papers = [value for value in paper_values() if not is_like(value, ("kept", "x"))]
        for value in papers + [
            (), ("same",), ("same", "x"), ("same", "x", "x", "x"), ["same", "x", "x"], ("same", "x", "X"),
            ("same", "", "x"),
            ("Same", "x", "x"), ("same", "x", ("x",)), ("within", "x"), ("beside", "x"), ("beside", "x", 1),
            ("kind", "x"),
            ("kind", "x", [2]), ("kind", "x", (1, 2)), ("kind", "x", (13,)), ("kind", "x", (True,)),
            ("kind", "x", (0,)),
            ("kind", "x", Kind((2,))), ("kind", "x", "x"), ("rest", "x", 1), ("rest", "x", None), ("rest", (1,), "x"),
            ("kept",),
            ("kept", "x", "x"), ("kept", ("x",)), ("kept", 1), ("has", "x"), ("has", "x", (4, 0)), ("has", "x", (0,)),
            ("has", "x", (True, 0)), ("has", "x", [0, 0]), ("has", "x", (0, 0), 0), ("has", (0, 0), "x"),
            ("x", "x", "x"),
            (True, "x", "x"), (("same",), "x", "x"), "same", 5, ("rest", "x", (NINES,)), ("within", "x", "abcdefghi"),
        ]:
            self.assertEqual(error_of(desk.promise, "p", value), ("InvalidOperation",), value)
            self.assertEqual(error_of(desk.promise, "P", value), ("InvalidOperation",), value)
        self.assertEqual(desk.labels, ())

    def test_true_and_not_true(self):
        desk = Desk(G)
        desk.put("x", TURN)
        desk.put("y", Part(G, ((0, 1),)))
        desk.put("z", HALF)
        for promise, told in (
            (("same", "x", "x"), True), (("same", "x", "y"), False), (("within", "z", "x"), True),
            (("within", "x", "z"), False),
            (("beside", "x", "y"), True), (("beside", "x", "z"), False), (("kind", "x", (2,)), True),
            (("kind", "x", (1, 1)), False),
            (("kind", "x", ()), False), (("rest", "x", (1,)), True), (("rest", "x", (2,)), False),
            (("kept", "z"), True),
            (("kept", "x"), False), (("has", "x", (3, 1)), True), (("has", "x", (1, 0)), False),
            (("has", "x", (0, 0)), True),
            (("same", "x", "n"), False), (("same", "n", "n"), False), (("kept", "n"), False),
            (("has", "n", (0, 0)), False),
            (("kind", "n", ()), False), (("rest", "y", (2,)), True), (("within", "n", "x"), False),
            (("beside", "y", "x"), True),
        ):
            got = error_of(desk.promise, "p", promise)
            self.assertEqual(got, ("no error", 4) if told else ("Refused", ("promise", "p")), promise)
            if told:
                self.assertTrue(is_like(desk.promised("p"), promise))
                self.assertEqual(desk.free("p"), 5)
                desk.undo(many=2)

    def test_twelve_promises(self):
        desk = Desk(G)
        desk.put("x", HALF)
        for many, label in enumerate("lkjihgfedcba", start=2):
            self.assertEqual(desk.promise(label, ("kept", "x")), many)
        self.assertEqual(desk.labels, tuple("abcdefghijkl"))
        self.assertEqual(error_of(desk.promise, "m", ("kept", "x")), ("TooMany", 12))
        self.assertEqual(error_of(desk.promise, "m", ("kept", "n")), ("TooMany", 12))
        self.assertEqual(error_of(desk.promise, "a", ("kept", "n")), ("Refused", ("label", "a")))
        self.assertEqual(error_of(desk.put, "x", TURN), ("Refused", ("promise", "a")))
        self.assertEqual(desk.broken_by("x", TURN), tuple("abcdefghijkl"))
        self.assertEqual((desk.free("a"), desk.promise("m", ("kept", "x"))), (14, 15))

    def test_least_labels(self):
        desk = Desk(G)
        desk.put("x", TURN)
        desk.follow("y", "side", "x")
        desk.promise("zz", ("kind", "x", (2,)))
        desk.promise("b", ("kind", "y", (1,)))
        desk.promise("ab", ("rest", "y", (2,)))
        desk.promise("c", ("same", "x", "x"))
        for part in parts(G):
            broken = desk.broken_by("x", part)
            told = error_of(desk.put, "x", part)
            self.assertEqual(told, ("Refused", ("promise", broken[0])) if broken else ("no error", desk.deeds))
        self.assertEqual(desk.broken_by("x", ALL), ("ab", "b", "zz"))
        self.assertEqual(desk.broken_by("y", ALL), ("ab", "b"))
        self.assertEqual(desk.broken_by("new", ALL), ())


class Signs(unittest.TestCase):
    def test_strings_and_properties(self):
        desk = full_desk()
        self.assertEqual(str(desk), "desk of [2 1] at 2 with 3 names, 2 promises")
        self.assertEqual(str(Desk(Group(7, Kind()))), "desk of [] at 7 with 0 names, 0 promises")
        self.assertEqual((desk.group, desk.deeds, "x" in desk, "v" in desk), (G, 5, True, False))
        for name in ("group", "names", "labels", "deeds"):
            with self.assertRaises(AttributeError):
                setattr(desk, name, 5)
        for call in (lambda: iter(desk), lambda: desk < desk, lambda: desk + desk, lambda: desk[0], lambda: list(desk)):
            self.assertEqual(error_of(call), ("TypeError",))

    def test_wrong_groups(self):
        for value in odd_ones(Group) + [Kind((2, 1)), 2]:
            self.assertEqual(error_of(Desk, value), ("InvalidGroup",))

    def test_equal(self):
        made = [Desk(G), Desk(Group(2, Kind((1, 1)))), Desk(Group(3, Kind((2, 1))))]
        for deeds in (
            [("put", "x", HALF)], [("put", "y", HALF)], [("put", "x", TURN)],
            [("put", "y", HALF), ("follow", "x", "met", "y", "y")],
            [("put", "y", HALF), ("put", "x", HALF)], [("put", "y", HALF), ("follow", "x", "kept", "y")],
            [("put", "x", HALF), ("promise", "p", ("kept", "x"))],
            [("put", "x", HALF), ("promise", "q", ("kept", "x"))],
            [("put", "x", HALF), ("promise", "p", ("kind", "x", (1,)))],
        ):
            desk = Desk(G)
            for deed in deeds:
                do(desk, deed)
            made.append(desk)
        for i, j in itertools.product(range(len(made)), repeat=2):
            self.assertIs(made[i] == made[j], i == j)
            self.assertIs(made[i] != made[j], i != j)
        desk = Desk(Group(2, Kind((2, 1))))
        for deed in (
            ("put", "z", TURN), ("put", "x", TURN), ("drop", "z"), ("put", "x", Part(Group(2, Kind((2, 1))), ((2, 0),)))
        ):
            do(desk, deed)
        self.assertTrue(desk == made[3] and desk.deeds != made[3].deeds)
        for value in odd_ones(Desk) + [str(desk), G]:
            self.assertIs(desk == value, False)

    def test_one_element(self):
        desk = Desk(Group(2, Kind()))
        part = Part(desk.group, ())
        self.assertEqual((desk.put("a", part), desk.follow("b", "side", "a"), desk.follow("c", "kept", "b")), (1, 2, 3))
        self.assertEqual((desk.promise("p", ("beside", "a", "c")), desk.promise("q", ("has", "c", ()))), (4, 5))
        self.assertEqual(desk.promise("r", ("kind", "a", ())), 6)

    def test_errors_are_those_of_the_package(self):
        with self.assertRaises(Refused):
            full_desk().put("x", NONE)


if __name__ == "__main__":
    unittest.main()
