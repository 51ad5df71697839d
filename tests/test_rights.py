"""4.1 to 4.3: rules, askers, what they let and what is seen."""

import itertools
import random
import unittest

from doorhouse.errors import NoAsker, NoKinds, NoName, NoPeople, NoRules, NoThings, NoVerb
from doorhouse.rights import are_rules, are_twins, is_asker, lets, nobody, seen
from tests.helper import KINDS, SITE, THINGS, anything, objects, refuses, tells

RULE = ("all", "see", "item", "name")
ANN = ("ann", ())
BOB = ("bob", ("boss", "clerk"))
RULES = (
    ("own", "see", "item", "name"),
    (("role", "clerk"), "see", "item", "name"),
    ("known", "see", "item", ""),
    ("all", "see", "item", "name"),
    ("all", "add", "note", ""),
    (("role", "boss"), "change", "item", "many"),
    ("own", "remove", "item", ""),
)
WRONG_WHO = (
    "", "All", "known ", "role", "any", None, 0, True, ("role",), ("role", "a", "b"), ("role", ""), ("role", "A"), ("role", "abcdefghi"),
    ("role", None), ("role", ("a",)), ("all",), ("all", "a"), ("own", "ann"), ["role", "a"], ["all"], {"role": "a"}, (), ("", "a"),
    (("role", "a"), "a"), (["role"], "a"), (None, "a"),
)
WRONG_DEED = ("", "See", "see ", "more", "get", "work", "all", None, 0, True, ("see",), ["see"], {"see": 1})
WRONG_NAME = ("A", "a1", "abcdefghi", " ", "a b", "a\n", "/a", None, 0, 1, True, ("a",), ["a"], {"a": 1}, (), [])
WRONG_ASKERS = (
    "", "ann", 0, True, False, (), [], {}, ("ann",), ("ann", (), ()), ("", ()), ("Ann", ()), ("abcdefghi", ()), (None, ()), (5, ()),
    (("ann",), ()), (["ann"], ()), ["ann", ()], ("ann", []), ("ann", ["clerk"]), ("ann", "clerk"), ("ann", None), ("ann", {}),
    ("ann", ("clerk", "boss")), ("ann", ("boss", "boss")), ("ann", ("a", "c", "b")), ("ann", ("A",)), ("ann", ("",)), ("ann", (None,)),
    ("ann", (5,)), ("ann", ("a", 5)), ("ann", (("a",),)), ("ann", (["a"],)), ("ann", "ab"), ("ann", ("abcdefghi",)), {"ann": ()},
)


def with_place(row, at, thing):
    """Tell a tuple with this thing at this place."""
    return row[:at] + (thing,) + row[at + 1:]


class Rules(unittest.TestCase):
    def told(self, thing, so):
        self.assertIs(tells(self, are_rules, thing), so, thing)
        if not so:
            refuses(self, NoRules, lets, thing, None, "see", "item")
            refuses(self, NoRules, seen, KINDS, thing, None, ())
            refuses(self, NoRules, are_twins, KINDS, thing, None, (), ())
            refuses(self, NoRules, nobody, thing, ())

    def test_rules(self):
        for who in ("all", "known", "own", ("role", "a"), ("role", "abcdefgh"), ("role", "role")):
            for deed in ("see", "add", "change", "remove"):
                for kind, field in (("a", "a"), ("abcdefgh", ""), ("no", "no"), ("all", "abcdefgh")):
                    self.told(((who, deed, kind, field),), True)
        self.told((), True)
        self.told(RULES, True)
        self.told((RULE, RULE), True)

    def test_at_most_twelve(self):
        for many in range(16):
            self.told((RULE,) * many, many <= 12)

    def test_one_place_otherwise(self):
        for at, wrongs in enumerate((WRONG_WHO, WRONG_DEED, WRONG_NAME + ("",), WRONG_NAME)):
            for wrong in wrongs:
                rule = with_place(RULE, at, wrong)
                for rules in ((rule,), (RULE, rule), (rule, RULE)):
                    self.told(rules, False)
        for rule in (RULE[:3], RULE + ("",), list(RULE), (), None, "all", 5, (RULE,), {}, "alls"):
            self.told((RULE, rule), False)
        for rules in ([RULE], list(RULES), RULE, {RULE: RULE}, None, "", 0, True, [], {}):
            self.told(rules, False)

    def test_of_anything(self):
        for thing in anything():
            self.told(thing, isinstance(thing, tuple) and thing == ())
            for at in range(4):
                name = isinstance(thing, str) and thing in ("a", "get", "post") and at > 1
                self.told((with_place(RULE, at, thing),), name or (at == 3 and isinstance(thing, str) and thing == ""))

    def test_by_name(self):
        self.assertIs(are_rules(thing=RULES), True)


class Askers(unittest.TestCase):
    def told(self, thing, so):
        self.assertIs(tells(self, is_asker, thing), so, thing)
        if so:
            self.assertIsNone(lets((), thing, "see", "item"))
        else:
            refuses(self, NoAsker, lets, RULES, thing, "see", "item")
            refuses(self, NoAsker, seen, KINDS, RULES, thing, ())
            refuses(self, NoAsker, are_twins, KINDS, RULES, thing, (), ())

    def test_askers(self):
        for thing in (None, ANN, BOB, ("a", ("a",)), ("abcdefgh", ("a", "aa", "ab", "b")), ("known", ("all", "own"))):
            self.told(thing, True)
        self.told(("ann", tuple(sorted([a + b for a in "abcdefghij" for b in "abcdefghij"]))), True)

    def test_no_askers(self):
        for thing in WRONG_ASKERS:
            self.told(thing, False)

    def test_of_anything(self):
        for thing in anything():
            self.told(thing, thing is None)
            self.told((thing, ()), isinstance(thing, str) and thing in ("a", "get", "post"))
            self.told(("ann", (thing,)), isinstance(thing, str) and thing in ("a", "get", "post"))
            self.told(("ann", thing), isinstance(thing, tuple) and thing in ((), ("a",), ("get",), ("number", "text"), ("add",)))

    def test_by_name(self):
        self.assertIs(is_asker(thing=None), True)


class Lets(unittest.TestCase):
    def test_who(self):
        for who, told in (
            ("all", "yyyy"), ("known", "nyyy"), ("own", "nynn"), (("role", "clerk"), "nnyn"), (("role", "boss"), "nnyy"), (("role", "x"), "nnnn"),
        ):
            rules = ((who, "change", "item", "many"),)
            for asker, so in zip((None, ANN, BOB, ("cat", ("boss",))), told):
                place = tells(self, lets, rules, asker, "change", "item", "many", "ann")
                self.assertEqual(place, 0 if so == "y" else None, (who, asker))

    def test_own_is_of_the_owner_alone(self):
        rules = (("own", "see", "item", ""),)
        for asker, owner, place in (
            (ANN, "ann", 0), (ANN, "bob", None), (ANN, "", None), (None, "", None), (None, "ann", None), (("bob", ("ann",)), "ann", None),
        ):
            self.assertEqual(lets(rules, asker, "see", "item", "name", owner), place, (asker, owner))

    def test_deed_and_kind(self):
        rules = (("all", "add", "item", ""),)
        for deed in ("see", "add", "change", "remove"):
            for kind in ("item", "note", "items"):
                self.assertEqual(lets(rules, ANN, deed, kind), 0 if (deed, kind) == ("add", "item") else None)

    def test_field(self):
        for own, asked, place in (("", "", 0), ("", "name", 0), ("name", "name", 0), ("name", "", None), ("name", "many", None)):
            self.assertEqual(tells(self, lets, (("all", "see", "item", own),), None, "see", "item", asked), place, (own, asked))

    def test_the_first_of_several(self):
        for asker, field, owner, place in (
            (ANN, "name", "ann", 0), (BOB, "name", "bob", 0), (BOB, "name", "ann", 1), (ANN, "name", "bob", 2), (ANN, "", "ann", 2),
            (ANN, "many", "ann", 2), (None, "name", "ann", 3), (None, "many", "", None), (None, "", "", None),
        ):
            self.assertEqual(tells(self, lets, RULES, asker, "see", "item", field, owner), place, (asker, field, owner))
        self.assertEqual(lets(RULES + RULES[:1], ANN, "see", "item", "name", "ann"), 0)

    def test_places_are_numbers(self):
        self.assertIs(type(lets(RULES, ANN, "see", "item", "name", "ann")), int)
        self.assertIs(type(lets((RULE, RULE), ANN, "see", "item", "name")), int)

    def test_left_out_and_by_name(self):
        self.assertEqual(lets(RULES, None, "add", "note"), 4)
        self.assertEqual(lets(RULES, ANN, "remove", "item", owner="ann"), 6)
        self.assertIsNone(lets(RULES, ANN, "remove", "item", "", "bob"))
        self.assertEqual(lets(owner="x", field="many", kind="item", deed="change", asker=BOB, rules=RULES), 5)
        # What is left out is the empty text, no name.
        for name in "abcxyz":
            self.assertIsNone(lets((("all", "see", "item", name),), None, "see", "item"))
            self.assertIsNone(lets((("own", "see", "item", ""),), (name, ()), "see", "item"))
            self.assertIsNone(lets((("own", "see", "item", ""),), (name, ()), "see", "item", "name"))
        for places in ((), (RULES,), (RULES, ANN), (RULES, ANN, "see")):
            with self.assertRaises(TypeError):
                lets(*places)

    def test_refusals(self):
        for wrong in WRONG_DEED:
            refuses(self, NoVerb, lets, RULES, None, wrong, "item")
        for wrong in WRONG_NAME + ("",):
            refuses(self, NoName, lets, RULES, None, "see", wrong)
        for wrong in WRONG_NAME:
            refuses(self, NoName, lets, RULES, None, "see", "item", wrong)
            refuses(self, NoName, lets, RULES, None, "see", "item", "name", wrong)
        for thing in objects():
            refuses(self, NoVerb, lets, RULES, None, thing, "item")
            refuses(self, NoName, lets, RULES, None, "see", thing)
            refuses(self, NoName, lets, RULES, None, "see", "item", thing)
            refuses(self, NoName, lets, RULES, None, "see", "item", "name", thing)

    def test_of_anything(self):
        for thing in anything():
            refuses(self, NoVerb, lets, RULES, None, thing, thing)
            if not (isinstance(thing, str) and thing in ("", "a", "get", "post")):
                refuses(self, NoName, lets, RULES, None, "see", thing)
                refuses(self, NoName, lets, RULES, None, "see", "item", thing)
                refuses(self, NoName, lets, RULES, None, "see", "item", "", thing)

    def test_the_first_that_is_due(self):
        right = (RULES, None, "see", "item", "name", "ann")
        wrong = ((RULE,) * 13, ("ann",), "look", "", "Name", None)
        due = (NoRules, NoAsker, NoVerb, NoName, NoName, NoName)
        for so in itertools.product((True, False), repeat=6):
            places = [one if good else other for good, one, other in zip(so, right, wrong)]
            if False in so:
                refuses(self, due[so.index(False)], lets, *places)

    def test_of_names_of_no_rule(self):
        for kind, field, owner in (("other", "", ""), ("item", "no", "zzz"), ("abcdefgh", "abcdefgh", "abcdefgh")):
            self.assertIsNone(lets(RULES, None, "see", kind, field, owner))


def model_lets(rules, asker, deed, kind, field, owner):
    """Tell the places of all rules that let it, said once more."""
    groups = {"all"}
    if asker:
        groups |= {"known", *[("role", role) for role in asker[1]]} | ({"own"} if asker[0] == owner else set())
    fields = {"", field}
    return [at for at, rule in enumerate(rules) if rule[0] in groups and rule[1:3] == (deed, kind) and rule[3] in fields]


NEAR_THINGS = (
    # Of no form.
    None, 5, "item", (), [], {}, ("item",), ("item", 1, ""), ("item", 1, "", ("a", 1), ()), ["item", 1, "", ("a", 1)],
    # A kind, a number, an owner or values that are none.
    ("items", 1, "", ("a", 1)), ("", 1, "", ("a", 1)), (None, 1, "", ("a", 1)), (["item"], 1, "", ("a", 1)), (KINDS[0], 1, "", ("a", 1)),
    ("item", 0, "", ("a", 1)), ("item", -1, "", ("a", 1)), ("item", True, "", ("a", 1)), ("item", "1", "", ("a", 1)), ("item", None, "", ("a", 1)),
    ("item", [1], "", ("a", 1)), ("item", 1, None, ("a", 1)), ("item", 1, "Ann", ("a", 1)), ("item", 1, "abcdefghi", ("a", 1)),
    ("item", 1, ["ann"], ("a", 1)), ("item", 1, ("ann",), ("a", 1)), ("item", 1, 5, ("a", 1)), ("item", 1, " ", ("a", 1)),
    ("item", 1, "", ("a",)), ("item", 1, "", ("a", 1, 1)), ("item", 1, "", ["a", 1]), ("item", 1, "", (1, "a")), ("item", 1, "", ("a", "1")),
    ("item", 1, "", ("a", -1)), ("item", 1, "", ("a", 10000)), ("item", 1, "", ("a", True)), ("item", 1, "", ("a" * 41, 1)), ("item", 1, "", ()),
    ("item", 1, "", ("a\n", 1)), ("item", 1, "", (None, 1)), ("item", 1, "", None), ("item", 1, "", ("%", 1)), ("item", 1, "", (("a",), 1)),
    ("note", 1, "", ("a", 1)), ("note", 1, "", (5,)), ("note", 1, "", "a"), ("note", 1, "", (["a"],)),
)
ONE, TWO, THREE, X = ("item", 1, "", ("a", 1)), ("item", 2, "bob", ("b", 2)), ("item", 10, "", ("c", 3)), ("note", 1, "ann", ("x",))
NO_THINGS = (
    [ONE], list(THINGS), ONE, None, "", 0, True, {}, [], (ONE, ONE), (TWO, ONE), (X, ONE), (ONE, ("item", 1, "", ("b", 1))), (ONE, THREE, TWO),
    (ONE, ("item", 1, "zz", ("a", 1))), (("item", 1, "", ("a", 0)), ONE), (X, X), (ONE, TWO, X, TWO), ((),), ((ONE,),), {ONE: ONE},
)


class Seen(unittest.TestCase):
    def test_fields_and_things(self):
        kinds, rules = SITE["kinds"], SITE["rules"]
        ugly = 'a "b" <c> & d'
        notes = (("note", 1, (("text", "hi"),)), ("note", 2, (("text", ""),)))
        for asker, items in (
            (None, (("item", 1, (("name", "pen"),)), ("item", 2, (("name", ugly),)), ("item", 7, (("name", ""),)))),
            (ANN, (("item", 1, (("name", "pen"), ("many", 5), ("sold", 0))), ("item", 2, (("name", ugly), ("many", 0))),
                   ("item", 7, (("name", ""), ("many", 1))))),
            (BOB, (("item", 1, (("name", "pen"), ("many", 5), ("sold", 0))), ("item", 2, (("name", ugly), ("many", 0), ("sold", 9999))),
                   ("item", 7, (("name", ""), ("many", 1), ("sold", 2))))),
        ):
            self.assertEqual(tells(self, seen, kinds, rules, asker, THINGS), items + notes, asker)

    def test_things_without_a_field_that_is_seen_are_left_out(self):
        rules = (("own", "see", "item", "many"), ("all", "add", "item", ""), ("all", "change", "note", "text"))
        things = (ONE, TWO, THREE, X)
        self.assertEqual(seen(KINDS, rules, None, things), ())
        self.assertEqual(seen(KINDS, rules, ANN, things), ())
        self.assertEqual(seen(KINDS, rules, BOB, things), (("item", 2, (("many", 2),)),))
        self.assertEqual(seen(KINDS, (), BOB, things), ())
        self.assertEqual(seen(KINDS, RULES, BOB, ()), ())

    def test_in_the_kinds_order_whatever_the_rules_order(self):
        kinds = (("b", (("z", "text"), ("a", "number"))), ("a", (("m", "text"),)))
        things = (("a", 3, "", ("x",)), ("b", 1, "", ("y", 5)), ("b", 12, "", ("", 0)))
        rules = (("all", "see", "b", "a"), ("all", "see", "b", "z"), ("all", "see", "a", ""))
        told = (("a", 3, (("m", "x"),)), ("b", 1, (("z", "y"), ("a", 5))), ("b", 12, (("z", ""), ("a", 0))))
        self.assertEqual(seen(kinds, rules, None, things), told)

    def test_rules_of_other_kinds(self):
        self.assertEqual(seen(KINDS, (("all", "see", "other", ""), ("all", "see", "item", "no")), None, (ONE, X)), ())

    def test_things(self):
        for things in (
            (), (ONE,), (ONE, TWO, THREE, X), (("item", 10 ** 39, "", ("a", 0)),), (("item", 9, "", ("z", 9)), ("item", 10, "", ("", 0))),
            (("item", 5, "abcdefgh", ("~" * 40, 9999)), ("note", 1, "", ("",))),
        ):
            self.assertIs(tells(self, are_twins, KINDS, RULES, None, things, things), True)
            self.assertEqual([row[:2] for row in seen(KINDS, RULES, ANN, things)], [row[:2] for row in things if row[0] == "item"])

    def test_no_things(self):
        wrongs = [things for thing in NEAR_THINGS for things in ((thing,), (thing, X), (("item", 1, "", ("a", 0)), thing, X))]
        for things in list(NO_THINGS) + wrongs + [THINGS]:
            refuses(self, NoThings, seen, KINDS, RULES, None, things)
            refuses(self, NoThings, are_twins, KINDS, RULES, None, things, ())
            refuses(self, NoThings, are_twins, KINDS, RULES, None, (), things)

    def test_of_anything(self):
        for thing in anything():
            if isinstance(thing, tuple) and thing == ():
                continue
            refuses(self, NoThings, seen, KINDS, RULES, None, thing)
            refuses(self, NoThings, seen, KINDS, RULES, None, (thing,))
            refuses(self, NoThings, are_twins, KINDS, RULES, None, thing, thing)
            refuses(self, NoThings, are_twins, KINDS, RULES, None, (), thing)
            refuses(self, NoRules, seen, KINDS, thing, thing, thing)
            if thing != KINDS:
                refuses(self, NoKinds, seen, thing, thing, thing, thing)
                refuses(self, NoKinds, are_twins, thing, RULES, None, (), ())
            for at in range(4):
                if not (isinstance(thing, str) and thing in ("", "a", "get", "post") and at == 2) and not (at == 1 and thing in (1, 9999, 10000, 10 ** 39) and thing is not True):
                    refuses(self, NoThings, seen, KINDS, RULES, None, (with_place(ONE, at, thing),))

    def test_the_first_that_is_due(self):
        right = (KINDS, RULES, ANN, (ONE,), (ONE, X))
        wrong = (KINDS[0], (RULE,) * 13, "ann", (ONE, ONE), (X, ONE))
        due = (NoKinds, NoRules, NoAsker, NoThings, NoThings)
        for so in itertools.product((True, False), repeat=5):
            places = [one if good else other for good, one, other in zip(so, right, wrong)]
            if False in so:
                refuses(self, due[so.index(False)], are_twins, *places)
            if False in so[:4]:
                refuses(self, due[so.index(False)], seen, *places[:4])

    def test_by_name(self):
        self.assertEqual(seen(things=(X,), asker=None, rules=(("all", "see", "note", ""),), kinds=KINDS), (("note", 1, (("text", "x"),)),))
        self.assertIs(are_twins(others=(), things=(), asker=None, rules=(), kinds=KINDS), True)
        with self.assertRaises(TypeError):
            seen(KINDS, RULES, None)
        with self.assertRaises(TypeError):
            are_twins(KINDS, RULES, None, ())


class Twins(unittest.TestCase):
    def test_seen_alike(self):
        kinds, rules = SITE["kinds"], SITE["rules"]
        other = (("item", 1, "cat", ("pen", 6, 7)),) + THINGS[1:]
        sold = (("item", 1, "ann", ("pen", 5, 1)),) + THINGS[1:]
        fewer = THINGS[:-1]
        for asker, told in ((None, "yyn"), (ANN, "nnn"), (BOB, "nnn"), (("eve", ()), "nyn"), (("eve", ("clerk",)), "nnn")):
            for things, so in zip((other, sold, fewer), told):
                self.assertIs(tells(self, are_twins, kinds, rules, asker, THINGS, things), so == "y", (asker, things))
                self.assertIs(are_twins(kinds, rules, asker, things, THINGS), so == "y", (asker, things))
            self.assertIs(are_twins(kinds, rules, asker, THINGS, THINGS), True)

    def test_things_that_nobody_sees(self):
        rules = (("all", "see", "item", "name"),)
        self.assertIs(are_twins(KINDS, rules, None, (ONE, X), (ONE,)), True)
        self.assertIs(are_twins(KINDS, rules, None, (ONE,), (("item", 1, "bob", ("a", 9)), X)), True)
        self.assertIs(are_twins(KINDS, rules, None, (ONE,), (("item", 2, "", ("a", 1)),)), False)
        self.assertIs(are_twins(KINDS, rules, None, (ONE,), ()), False)


PEOPLE = (("ann", "w", ()), ("bob", "w", ("boss", "clerk")))
WRONG_PEOPLE = (
    ("", "w", ()), ("Ann", "w", ()), ("abcdefghi", "w", ()), (None, "w", ()), (5, "w", ()), (["ann"], "w", ()), (("ann",), "w", ()),
    ("cat", "", ()), ("cat", "W", ()), ("cat", "123456789", ()), ("cat", None, ()), ("cat", 5, ()), ("cat", "a b", ()), ("cat", ["w"], ()),
    ("cat", "w", []), ("cat", "w", None), ("cat", "w", "boss"), ("cat", "w", ("b", "a")), ("cat", "w", ("a", "a")), ("cat", "w", ("A",)),
    ("cat", "w", (None,)), ("cat", "w", (["a"],)), ("cat", "w"), ("cat", "w", (), ()), ["cat", "w", ()], (), None, 5, "cat", {}, ("ann", "v", ("x",)),
)


class Nobody(unittest.TestCase):
    def test_places(self):
        for rules, people, told in (
            ((), (), ()),
            ((RULE,), (), ()),
            ((RULE, RULE), (), (1,)),
            ((("known", "see", "item", ""),), (), (0,)),
            ((("known", "see", "item", ""),), PEOPLE[:1], ()),
            ((("own", "see", "item", ""), ("own", "add", "x", "y")), (), (0, 1)),
            ((("own", "see", "item", ""),), PEOPLE[:1], ()),
            (((("role", "boss"), "see", "item", ""),), PEOPLE[:1], (0,)),
            (((("role", "boss"), "see", "item", ""),), PEOPLE, ()),
            ((("known", "see", "item", ""), ("own", "see", "item", "name")), PEOPLE, (1,)),
            ((("own", "see", "item", "name"), ("known", "see", "item", "name")), PEOPLE[:1], ()),
            ((("all", "see", "item", "name"), ("all", "see", "item", "")), (), ()),
            ((("all", "see", "item", ""), ("all", "see", "item", "name")), (), (1,)),
            ((("all", "see", "item", ""), ("all", "see", "note", ""), ("all", "add", "item", "")), (), ()),
            (((("role", "boss"), "see", "item", ""), (("role", "clerk"), "see", "item", "")), PEOPLE, (1,)),
            (((("role", "boss"), "see", "item", "name"), (("role", "clerk"), "see", "item", "")), PEOPLE, ()),
            ((("known", "see", "item", ""), ("all", "see", "item", ""), ("own", "see", "item", "")), PEOPLE, (2,)),
        ):
            self.assertEqual(tells(self, nobody, rules, people), told, (rules, people))

    def test_people(self):
        for many in range(9):
            people = tuple([(name, "w" + name, ()) for name in "abcdefghi"[:many]])
            if many <= 6:
                self.assertEqual(nobody((RULE,), people), ())
            else:
                refuses(self, NoPeople, nobody, (RULE,), people)
        self.assertEqual(nobody((RULE,), (("abcdefgh", "12345678", ("a", "b")), ("b", "12345678", ()))), ())

    def test_no_people(self):
        for wrong in WRONG_PEOPLE:
            for people in ((wrong, PEOPLE[0]), (PEOPLE[0], wrong)):
                refuses(self, NoPeople, nobody, RULES, people)
        for wrong in (list(PEOPLE), PEOPLE[0], (PEOPLE,), None, "", 0, True, {}, [], {"ann": PEOPLE[0]}):
            refuses(self, NoPeople, nobody, RULES, wrong)

    def test_of_anything(self):
        for thing in anything():
            if not (isinstance(thing, tuple) and thing == ()):
                refuses(self, NoPeople, nobody, RULES, thing)
                refuses(self, NoRules, nobody, thing, thing)
            refuses(self, NoPeople, nobody, RULES, (thing,))

    def test_by_name(self):
        self.assertEqual(nobody(people=(), rules=(RULE, RULE)), (1,))
        with self.assertRaises(TypeError):
            nobody(RULES)


class Chance(unittest.TestCase):
    """Held against what the document says, said once more, over all small names."""

    def setUp(self):
        self.chance = random.Random(4)

    def some_rules(self):
        pick = self.chance.choice
        whos = ("all", "known", "own", ("role", "a"), ("role", "b"))
        rows = [(pick(whos), pick(("see", "see", "add")), pick(("item", "note")), pick(("", "name", "many", "text"))) for _ in range(8)]
        return tuple(rows[:self.chance.randrange(9)])

    def some_asker(self):
        return self.chance.choice((None, ("a", ()), ("b", ("a",)), ("c", ("a", "b")), ("d", ("b",))))

    def some_things(self):
        rows = []
        for kind, number in (("item", 1), ("item", 2), ("note", 1), ("note", 11)):
            owner = self.chance.choice(("", "a", "b", "c"))
            values = (self.chance.choice(("", "x")),) + ((self.chance.randrange(2),) if kind == "item" else ())
            rows.append((kind, number, owner, values))
        return tuple([row for row in rows if self.chance.random() < 0.7])

    def test_lets(self):
        for _ in range(150):
            rules, asker = self.some_rules(), self.some_asker()
            for deed, kind, field, owner in itertools.product(("see", "add", "remove"), ("item", "note"), ("", "name", "text"), ("", "a", "b")):
                told = model_lets(rules, asker, deed, kind, field, owner)
                self.assertEqual(lets(rules, asker, deed, kind, field, owner), told[0] if told else None)

    def test_seen(self):
        alike = 0
        for _ in range(400):
            rules, asker, things, others = self.some_rules(), self.some_asker(), self.some_things(), self.some_things()
            told = []
            for lot in (things, others):
                rows = []
                for kind, number, owner, values in lot:
                    fields = zip(dict(KINDS)[kind], values)
                    row = [(name, value) for (name, _), value in fields if model_lets(rules, asker, "see", kind, name, owner)]
                    rows += [(kind, number, tuple(row))] if row else []
                told.append(tuple(rows))
            self.assertEqual(tells(self, seen, KINDS, rules, asker, things), told[0])
            self.assertIs(are_twins(KINDS, rules, asker, things, others), told[0] == told[1])
            alike += things != others and told[0] == told[1]
        self.assertGreater(alike, 20)

    def test_nobody(self):
        some = 0
        for _ in range(150):
            rules = self.some_rules()
            people = tuple([(name, "w", roles) for name, roles in (("a", ()), ("b", ("a",)), ("c", ("a", "b"))) if self.chance.random() < 0.5])
            met = set()
            for asker in [None] + [(name, roles) for name, word, roles in people]:
                for rest in itertools.product(("see", "add"), ("item", "note"), ("", "name", "many", "text", "z"), ("", "a", "b", "c", "z")):
                    met.add(lets(rules, asker, *rest))
            told = tuple([at for at in range(len(rules)) if at not in met])
            self.assertEqual(tells(self, nobody, rules, people), told, (rules, people))
            some += told != ()
        self.assertGreater(some, 50)


if __name__ == "__main__":
    unittest.main()
