"""3.1 to 3.3: kinds, deeds, and a store with all its versions."""

import random
import unittest

from doorhouse.errors import Cannot, NoDeeds, NoKinds, NoVersion
from doorhouse.store import Store, are_kinds
from tests.helper import KINDS, anything, objects, refuses, tells

FIELDS = (("name", "text"), ("many", "number"))
ALL_NAMES = "abcdefghijklmnop"


def pen(name="pen", many=5, owner=""):
    """Tell the deed that adds an item."""
    return ("add", "item", owner, (name, many))


def note(text, owner="ann"):
    return ("add", "note", owner, (text,))


def some_store():
    """Tell a store with items 1 and 3 and note 1, item 2 having been removed, at version 3."""
    store = Store(KINDS)
    store.done((pen(), pen("ink", 7, "bob"), note("x")))
    store.done((pen("cap", 0, "ann"),))
    store.done((("remove", "item", 2),))
    return store


def shown(store):
    """Tell all that a store tells."""
    versions = range(store.version() + 1)
    turned = [store.turned(one, other) for other in versions for one in range(other + 1)]
    return (store.things(), store.version(), len(store), [store.as_of(version) for version in versions], turned)


class Kinds(unittest.TestCase):
    def test_kinds(self):
        for thing in (
            KINDS,
            (("item", FIELDS),),
            (("abcdefgh", (("abcdefgh", "number"),)),),
            (("no", (("nos", "number"),)),),
            (("item", (("item", "text"),)), ("name", (("item", "number"),))),
            (("number", (("text", "number"), ("number", "text"))),),
        ):
            self.assertIs(tells(self, are_kinds, thing), True, thing)
            self.assertEqual(Store(thing).things(), ())

    def test_one_to_four_and_one_to_five(self):
        for many in range(8):
            kinds = tuple([(name, (("x", "text"),)) for name in ALL_NAMES[:many]])
            self.assertIs(are_kinds(kinds), 1 <= many <= 4, many)
            fields = tuple([(name, "number") for name in ALL_NAMES[:many]])
            self.assertIs(are_kinds((("item", fields),)), 1 <= many <= 5, many)

    def test_no_kinds(self):
        right = ("item", FIELDS)
        for wrong in (
            ("", FIELDS), ("Item", FIELDS), ("abcdefghi", FIELDS), ("a1", FIELDS), (5, FIELDS), (None, FIELDS),
            (["a"], FIELDS), (("a",), FIELDS), ("note",), ("note", FIELDS, ()), (), ["note", FIELDS], "no", None, 5, {},
            ("item", FIELDS), ("note", ()), ("note", list(FIELDS)), ("note", dict(FIELDS)), ("note", "ab"), ("note", None),
            ("note", FIELDS[0]), ("note", (FIELDS,)),
            ("note", (("no", "text"),)), ("note", (("x", "text"), ("no", "number"))), ("note", (("x", "text"), ("x", "text"))),
            ("note", (("x", "text"), ("y", "text"), ("x", "number"))),
            ("note", (("", "text"),)), ("note", (("X", "text"),)), ("note", (("abcdefghi", "text"),)), ("note", ((5, "text"),)),
            ("note", ((["x"], "text"),)), ("note", (("x", "texts"),)), ("note", (("x", ""),)), ("note", (("x", "Text"),)),
            ("note", (("x", None),)), ("note", (("x", ["text"]),)), ("note", (("x", ("text",)),)), ("note", (("x", 0),)),
            ("note", (("x",),)), ("note", (("x", "text", "text"),)), ("note", (["x", "text"],)), ("note", ("xt",)),
            ("note", (None,)), ("note", ((),)), ("note", (("text", "x"),)),
        ):
            for kinds in ((right, wrong), (wrong, right), (("a", (("x", "text"),)), right, wrong)):
                self.assertIs(tells(self, are_kinds, kinds), False, kinds)
                refuses(self, NoKinds, Store, kinds)
        for wrong in ((), list(KINDS), dict(KINDS), KINDS[0], (KINDS,), [list(kind) for kind in KINDS], None, "item"):
            self.assertIs(tells(self, are_kinds, wrong), False, wrong)
            refuses(self, NoKinds, Store, wrong)

    def test_of_anything(self):
        for thing in anything() + objects():
            self.assertIs(tells(self, are_kinds, thing), thing == KINDS, thing)
            if thing != KINDS:
                refuses(self, NoKinds, Store, thing)
            for kinds in (((thing, FIELDS),), (("item", ((thing, "text"),)),)):
                self.assertIs(are_kinds(kinds), isinstance(thing, str) and thing in ("a", "get", "post"), thing)
            for kinds in ((thing,), (("item", thing),), (("item", (("x", thing),)),)):
                self.assertIs(are_kinds(kinds), thing == KINDS[0] and kinds == (thing,), thing)

    def test_by_name(self):
        self.assertIs(are_kinds(thing=KINDS), True)
        self.assertEqual(Store(kinds=KINDS), Store(KINDS))
        with self.assertRaises(TypeError):
            Store()


class AtFirst(unittest.TestCase):
    def test_no_things_at_version_0(self):
        store = Store(KINDS)
        self.assertEqual((store.things(), store.version(), len(store), store.as_of(0)), ((), 0, 0, ()))
        self.assertEqual(store.turned(0, 0), ())
        refuses(self, NoVersion, store.as_of, 1)


class Done(unittest.TestCase):
    def test_add(self):
        store = Store(KINDS)
        self.assertEqual(store.done((pen("ink", 0, "bob"),)), (1,))
        self.assertEqual(store.things(), (("item", 1, "bob", ("ink", 0)),))
        self.assertEqual(store.done((note(""), pen("x" * 40, 9999), note("~", ""))), (1, 2, 2))
        self.assertEqual(store.things(), (
            ("item", 1, "bob", ("ink", 0)), ("item", 2, "", ("x" * 40, 9999)), ("note", 1, "ann", ("",)), ("note", 2, "", ("~",))))
        self.assertEqual((store.version(), len(store)), (2, 4))

    def test_change(self):
        store = some_store()
        self.assertEqual(store.done((("change", "item", 1, "name", "nib"), ("change", "item", 3, "many", 9999))), ())
        self.assertEqual(store.things(), (
            ("item", 1, "", ("nib", 5)), ("item", 3, "ann", ("cap", 9999)), ("note", 1, "ann", ("x",))))
        store.done((("change", "note", 1, "text", ""),))
        self.assertEqual(store.things()[-1], ("note", 1, "ann", ("",)))

    def test_more(self):
        store = some_store()
        for by, many in ((1, 6), (-6, 0), (0, 0), (9999, 9999), (-9999, 0)):
            self.assertEqual(store.done((("more", "item", 1, "many", by),)), ())
            self.assertEqual(store.things()[0], ("item", 1, "", ("pen", many)))

    def test_remove(self):
        store = some_store()
        self.assertEqual(store.done((("remove", "note", 1), ("remove", "item", 1))), ())
        self.assertEqual(store.things(), (("item", 3, "ann", ("cap", 0)),))
        store.done((("remove", "item", 3),))
        self.assertEqual((store.things(), len(store)), ((), 0))

    def test_one_behind_the_other(self):
        store = Store(KINDS)
        told = store.done((
            pen("a", 1), ("more", "item", 1, "many", 5), pen("b", 2), ("change", "item", 2, "name", "c"), ("remove", "item", 1),
            pen("d", 3), ("more", "item", 3, "many", -3)))
        self.assertEqual(told, (1, 2, 3))
        self.assertEqual(store.things(), (("item", 2, "", ("c", 2)), ("item", 3, "", ("d", 0))))
        self.assertEqual((store.version(), store.as_of(0)), (1, ()))

    def test_of_no_deeds(self):
        store = some_store()
        self.assertEqual(store.done(()), ())
        self.assertEqual((store.version(), store.as_of(4), store.turned(3, 4)), (4, store.as_of(3), ()))

    def test_numbers_are_never_given_again(self):
        store = Store(KINDS)
        self.assertEqual(store.done((pen(), pen())), (1, 2))
        store.done((("remove", "item", 2), ("remove", "item", 1)))
        self.assertEqual(store.done((pen(),)), (3,))
        self.assertEqual(store.done((pen(), ("remove", "item", 4), pen(), ("remove", "item", 5))), (4, 5))
        self.assertEqual(store.done((pen(), note("x"))), (6, 1))

    def test_what_was_refused_gave_no_number(self):
        store = Store(KINDS)
        refuses(self, Cannot, store.done, (pen(), pen(), ("remove", "item", 3)))
        self.assertEqual(store.done((pen(),)), (1,))

    def test_by_name(self):
        store = Store(KINDS)
        self.assertEqual(store.done(deeds=(pen(),)), (1,))
        with self.assertRaises(TypeError):
            store.done()

    def test_rising_by_kind_and_number(self):
        store = Store((("b", (("x", "text"),)), ("a", (("x", "number"),)), ("ab", (("x", "number"),))))
        store.done(tuple([("add", kind, "", (5,)) for kind in ("ab", "a")] * 6) + (("add", "b", "", ("x",)),) * 11)
        keys = [thing[:2] for thing in store.things()]
        self.assertEqual(keys, [(kind, at) for kind, many in (("a", 6), ("ab", 6), ("b", 11)) for at in range(1, many + 1)])
        self.assertEqual(store.turned(0, 1), tuple(keys))

    def test_numbers_rise_as_numbers_do(self):
        store = Store(KINDS)
        store.done((pen(),) * 12)
        self.assertEqual([thing[1] for thing in store.things()], list(range(1, 13)))


NO_DEEDS = (
    # Of no form.
    None, 5, "add", "", (), [], {}, True, ("add",), ("add", "note"), ("put", "note", "", ("x",)), ("", "note", 1), (None, "note", 1),
    (["add"], "note", "", ("x",)), (("add",), "note", "", ("x",)), ("Add", "note", "", ("x",)), (True, "note", 1),
    ("put", "item", 1, "name", "x"), (None, "item", 1, "many", 5), (["change"], "item", 1, "name", "x"), ("", "item", 1, "many", 5),
    ["add", "note", "", ("x",)], ("note", "add", "", ("x",)), (note("x"),),
    # An add that is none.
    ("add", "other", "", ("x",)), ("add", "", "", ("x",)), ("add", None, "", ("x",)), ("add", ["note"], "", ("x",)),
    ("add", KINDS[1], "", ("x",)), ("add", "note", ""), ("add", "note", "", ("x",), 1), ("add", "note", ("x",)),
    ("add", "note", "Ann", ("x",)), ("add", "note", "abcdefghi", ("x",)), ("add", "note", "a1", ("x",)), ("add", "note", None, ("x",)),
    ("add", "note", 5, ("x",)), ("add", "note", ("ann",), ("x",)), ("add", "note", " ", ("x",)), ("add", "note", ["ann"], ("x",)),
    ("add", "note", "", ()), ("add", "note", "", ("x", "y")), ("add", "note", "", ["x"]), ("add", "note", "", "x"),
    ("add", "note", "", (5,)), ("add", "note", "", (None,)), ("add", "note", "", ("%",)), ("add", "note", "", ("x" * 41,)),
    ("add", "note", "", ("x\n",)), ("add", "note", "", (("x",),)), ("add", "note", "", (["x"],)), ("add", "note", "", None),
    ("add", "item", "", ("x",)), ("add", "item", "", (5, "x")), ("add", "item", "", ("x", "5")), ("add", "item", "", ("x", -1)),
    ("add", "item", "", ("x", 10000)), ("add", "item", "", ("x", True)), ("add", "item", "", ("x", 5, 5)), ("add", "item", "", {}),
    # A change that is none.
    ("change", "other", 1, "name", "x"), ("change", "item", 0, "name", "x"), ("change", "item", -1, "name", "x"),
    ("change", "item", "1", "name", "x"), ("change", "item", True, "name", "x"), ("change", "item", None, "name", "x"),
    ("change", "item", [1], "name", "x"), ("change", "item", 1, "text", "x"), ("change", "item", 1, "no", 5),
    ("change", "item", 1, "", "x"), ("change", "item", 1, None, "x"), ("change", "item", 1, ["name"], "x"),
    ("change", "item", 1, ("name", "text"), "x"), ("change", "item", 1, "name", 5), ("change", "item", 1, "name", "%"),
    ("change", "item", 1, "name", "x" * 41), ("change", "item", 1, "name", None), ("change", "item", 1, "name", ("x",)),
    ("change", "item", 1, "many", "5"), ("change", "item", 1, "many", -1), ("change", "item", 1, "many", 10000),
    ("change", "item", 1, "many", True), ("change", "item", 1, "name"), ("change", "item", 1), ("change", "item", 1, "name", "x", "y"),
    ("change", "note", 1, "name", "x"), ("change", ["item"], 1, "name", "x"),
    # A more that is none.
    ("more", "other", 1, "many", 1), ("more", "item", 0, "many", 1), ("more", "item", True, "many", 1), ("more", "item", 1, "much", 1),
    ("more", "item", 1, "no", 1), ("more", "item", 1, "many", 10000), ("more", "item", 1, "many", -10000),
    ("more", "item", 1, "many", "1"), ("more", "item", 1, "many", True), ("more", "item", 1, "many", None),
    ("more", "item", 1, "many", [1]), ("more", "item", 1, "many"), ("more", "item", 1, "many", 1, 1), ("more", "item", 1),
    ("more", "item", 1, "name", "x"), ("more", "note", 1, "many", 1), ("more", "item", "1", "many", 1),
    # A remove that is none.
    ("remove", "other", 1), ("remove", "item", 0), ("remove", "item", -1), ("remove", "item", "1"), ("remove", "item", True),
    ("remove", "item", None), ("remove", "item", (1,)), ("remove", "item", [1]), ("remove", "item"), ("remove", "item", 1, 1),
    ("remove", None, 1), ("remove", ["item"], 1), ("remove", 1, "item"),
)


class Refused(unittest.TestCase):
    def refuse(self, error, deeds):
        """Assert that deeds are refused, and that the store is as it was; tell the refusal."""
        store = some_store()
        before, twin = shown(store), store.twin()
        refusal = refuses(self, error, store.done, deeds)
        self.assertEqual(shown(store), before)
        self.assertEqual(store, twin)
        self.assertEqual(store.done((pen(), note("y"))), (4, 2))
        return refusal

    def test_what_are_no_deeds(self):
        for wrong in NO_DEEDS:
            for deeds in ((wrong,), (pen(), wrong), (wrong, pen()), (("remove", "item", 99), wrong)):
                self.refuse(NoDeeds, deeds)

    def test_no_tuple(self):
        for deeds in (None, 5, "", "add", [], [pen()], {}, {"a": pen()}, pen(), ([pen()],), ((pen(),),), True, 0):
            self.refuse(NoDeeds, deeds)

    def test_of_anything(self):
        deed = note("x", "")
        for thing in anything() + objects():
            if thing not in ((), (deed,)):
                self.refuse(NoDeeds, thing)
            if thing not in (deed, ("remove", "item", 1)):
                self.refuse(NoDeeds, (thing,))
            self.refuse(NoDeeds, (("add", thing, "", ("x",)),))
            self.refuse(NoDeeds, ((thing, "note", "", ("x",)),))
            if thing not in ("", "a", "get", "post"):
                self.refuse(NoDeeds, (("add", "note", thing, ("x",)),))
            if thing not in ((), ("a",), ("/a",), ("get",), ("/",), ("add",), ("",)):
                self.refuse(NoDeeds, (("add", "note", "", thing),))
            self.refuse(NoDeeds, (("change", "item", 1, thing, "x"),))
            if type(thing) is not int or thing < 1:
                self.refuse(NoDeeds, (("remove", "item", thing),))
                self.refuse(NoDeeds, (("change", "item", thing, "name", "x"),))
            if type(thing) is not int or abs(thing) > 9999:
                self.refuse(NoDeeds, (("more", "item", 1, "many", thing),))
                self.refuse(NoDeeds, (("change", "item", 1, "many", thing),))

    def test_what_can_not_be_done(self):
        for wrong in (
            ("remove", "item", 2), ("remove", "item", 4), ("remove", "note", 2), ("remove", "item", 10 ** 39),
            ("change", "item", 2, "name", "x"), ("change", "note", 3, "text", "x"), ("change", "item", 10 ** 39, "many", 0),
            ("more", "item", 2, "many", 1), ("more", "item", 2, "many", 0), ("more", "item", 4, "many", 0),
            ("more", "item", 1, "many", -6), ("more", "item", 1, "many", 9995), ("more", "item", 1, "many", 9999),
            ("more", "item", 1, "many", -9999), ("more", "item", 3, "many", -1),
            ("more", "item", 1, "name", 0), ("more", "item", 1, "name", 1), ("more", "note", 1, "text", -1),
        ):
            self.assertEqual(self.refuse(Cannot, (wrong,)).at, 0, wrong)
            ahead = (("change", "note", 1, "text", "y"), ("change", "item", 1, "name", "q"))
            self.assertEqual(self.refuse(Cannot, (*ahead, wrong, note("z"))).at, 2, wrong)
            self.assertEqual(self.refuse(Cannot, (wrong, wrong)).at, 0, wrong)

    def test_the_first_that_can_not_be_done_then(self):
        for deeds, at in (
            ((("remove", "item", 1), ("remove", "item", 1)), 1),
            ((("remove", "item", 1), ("change", "item", 1, "name", "x")), 1),
            ((("change", "item", 4, "name", "x"), pen()), 0),
            ((pen(), ("change", "item", 5, "name", "x"), pen()), 1),
            ((pen("x", 9999), ("more", "item", 4, "many", 1)), 1),
            ((("change", "item", 1, "many", 0), ("more", "item", 1, "many", -1)), 1),
            ((("more", "item", 1, "many", 9994), ("more", "item", 1, "many", 1), ("remove", "item", 9)), 1),
            ((("more", "item", 1, "many", -5), ("more", "item", 1, "many", -1), ("more", "item", 1, "many", 1)), 1),
            ((note("a"), note("b"), note("c"), ("remove", "note", 5)), 3),
        ):
            self.assertEqual(self.refuse(Cannot, deeds).at, at, deeds)

    def test_no_deeds_go_ahead_of_what_can_not_be_done(self):
        self.refuse(NoDeeds, (("remove", "item", 99), ("remove", "item", 0)))

    def test_handed_in_lists_stay_as_they_were(self):
        deeds = [["add", "note", "", ["x"]]]
        self.refuse(NoDeeds, deeds)
        self.refuse(NoDeeds, (("add", "note", "", deeds),))
        self.assertEqual(deeds, [["add", "note", "", ["x"]]])


class Versions(unittest.TestCase):
    def test_as_of(self):
        store = some_store()
        one, two, x, cap = ("item", 1, "", ("pen", 5)), ("item", 2, "bob", ("ink", 7)), ("note", 1, "ann", ("x",)), ("item", 3, "ann", ("cap", 0))
        self.assertEqual([store.as_of(version) for version in range(4)], [(), (one, two, x), (one, two, cap, x), (one, cap, x)])
        self.assertEqual(store.things(), (one, cap, x))
        self.assertEqual((store.version(), len(store)), (3, 3))
        store.done((("change", "item", 1, "name", "nib"),))
        self.assertEqual(store.as_of(3), (one, cap, x))
        self.assertEqual(store.as_of(version=4)[0], ("item", 1, "", ("nib", 5)))

    def test_turned(self):
        store = some_store()
        store.done((("more", "item", 1, "many", 1),))
        store.done((("more", "item", 1, "many", -1), ("change", "note", 1, "text", "x")))
        for one, other, told in (
            (0, 0, ()), (0, 1, (("item", 1), ("item", 2), ("note", 1))), (1, 2, (("item", 3),)), (2, 3, (("item", 2),)),
            (1, 3, (("item", 2), ("item", 3))), (0, 3, (("item", 1), ("item", 3), ("note", 1))), (3, 4, (("item", 1),)),
            (4, 5, (("item", 1),)), (3, 5, ()), (5, 5, ()), (2, 5, (("item", 2),)),
        ):
            self.assertEqual(tells(self, store.turned, one, other), told, (one, other))
        self.assertEqual(store.turned(other=2, one=1), (("item", 3),))

    def test_no_versions(self):
        store = some_store()
        before = shown(store)
        for wrong in [4, 5, -1, 10 ** 39, -(10 ** 39), True, False, None, "0", "", (0,), [0], {}, KINDS] + objects():
            refuses(self, NoVersion, store.as_of, wrong)
            refuses(self, NoVersion, store.turned, wrong, 0)
            refuses(self, NoVersion, store.turned, 0, wrong)
            refuses(self, NoVersion, store.turned, wrong, wrong)
        for one, other in ((1, 0), (3, 2), (3, 0)):
            refuses(self, NoVersion, store.turned, one, other)
        self.assertEqual(shown(store), before)

    def test_of_anything(self):
        store = some_store()
        for thing in anything():
            if type(thing) is not int or not 0 <= thing <= 3:
                refuses(self, NoVersion, store.as_of, thing)
                refuses(self, NoVersion, store.turned, 0, thing)

    def test_kinds(self):
        store = some_store()
        self.assertEqual([type(told) for told in (store.things(), store.as_of(1), store.turned(0, 1), store.done(()))], [tuple] * 4)
        self.assertEqual([type(told) for told in (store.turned(0, 1)[0], store.things()[0], store.version())], [tuple, tuple, int])


class TwinsAndEquals(unittest.TestCase):
    def equal(self, one, other, so):
        self.assertIs(one == other, so)
        self.assertIs(other == one, so)
        self.assertIs(one != other, not so)
        self.assertIs(other != one, not so)

    def test_a_twin_has_all(self):
        store = some_store()
        twin = store.twin()
        self.assertIs(type(twin), Store)
        self.assertIsNot(twin, store)
        self.assertEqual(shown(twin), shown(store))
        self.equal(store, twin, True)

    def test_a_twin_goes_its_own_way(self):
        store = some_store()
        before = shown(store)
        twin = store.twin()
        self.assertEqual(twin.done((pen(), note("y"))), (4, 2))
        self.assertEqual(shown(store), before)
        self.equal(store, twin, False)
        self.assertEqual(store.done((pen(), note("y"))), (4, 2))
        self.equal(store, twin, True)
        store.done(())
        self.equal(store, twin, False)
        self.assertEqual((twin.version(), store.version()), (4, 5))

    def test_a_twin_knows_the_numbers_that_were_given(self):
        store = Store(KINDS)
        store.done((pen(), ("remove", "item", 1)))
        self.assertEqual(store.twin().done((pen(),)), (2,))
        self.assertEqual(store.twin().twin().done((pen(),)), (2,))

    def test_equal_where_kinds_and_all_versions_are(self):
        self.equal(Store(KINDS), Store(KINDS), True)
        self.equal(Store(KINDS), Store(KINDS[::-1]), False)
        self.equal(Store(KINDS), Store(KINDS[:1]), False)
        self.equal(some_store(), some_store(), True)
        self.equal(some_store(), Store(KINDS), False)

    def test_unlike_where_one_version_is(self):
        one, other = Store(KINDS), Store(KINDS)
        one.done((pen("a"),))
        other.done((pen("b"),))
        for store in (one, other):
            store.done((("change", "item", 1, "name", "c"),))
        self.assertEqual(one.things(), other.things())
        self.equal(one, other, False)

    def test_equal_whatever_the_deeds_were(self):
        one, other = Store(KINDS), Store(KINDS)
        one.done((pen("a", 5),))
        other.done((pen("b", 4), ("change", "item", 1, "name", "a"), ("more", "item", 1, "many", 1)))
        self.equal(one, other, True)

    def test_equals_nothing_else(self):
        for store in (Store(KINDS), some_store()):
            for thing in [store.things(), store.version(), KINDS, 0, 3, (), [], {}, "", None, True, False, object(), Store]:
                self.equal(store, thing, False)

    def test_two_stores_have_nothing_in_common(self):
        one, other = Store(KINDS), Store(KINDS)
        one.done((pen(),))
        self.assertEqual(shown(other), shown(Store(KINDS)))
        self.assertEqual(other.done((pen(),)), (1,))

    def test_each_method_stands_in_the_class_itself(self):
        for name in ("__init__", "done", "things", "as_of", "version", "turned", "twin", "__len__", "__eq__"):
            self.assertIn(name, vars(Store))


class Model:
    """A store said a second time: the deeds that were done, and things as dicts."""

    def __init__(self):
        self.states = [{}]
        self.given = {"item": 0, "note": 0}

    def done(self, deeds):
        """Tell the numbers given, or the place of the first deed that can't be done."""
        state = {key: dict(thing) for key, thing in self.states[-1].items()}
        given, numbers = dict(self.given), []
        for at, (word, kind, *rest) in enumerate(deeds):
            names = ["name", "many"] if kind == "item" else ["text"]
            if word == "add":
                given[kind] += 1
                numbers.append(given[kind])
                state[kind, given[kind]] = {"owner": rest[0], **dict(zip(names, rest[1]))}
                continue
            thing = state.get((kind, rest[0]))
            if thing is None:
                return at
            if word == "remove":
                state.pop((kind, rest[0]))
            elif word == "change":
                thing[rest[1]] = rest[2]
            else:
                if rest[1] != "many" or thing["many"] + rest[2] not in range(10000):
                    return at
                thing["many"] += rest[2]
        self.states.append(state)
        self.given = given
        return tuple(numbers)

    def as_of(self, version):
        rows = []
        for (kind, number), thing in self.states[version].items():
            names = ["name", "many"] if kind == "item" else ["text"]
            rows.append((kind, number, thing["owner"], tuple([thing[name] for name in names])))
        return tuple(sorted(rows))


def some_deed(chance):
    kind, number = chance.choice(("item", "note")), chance.randrange(1, 9)
    field, text = chance.choice(("name", "many")), chance.choice(("", "a", "b"))
    word = chance.choice(("add", "add", "change", "more", "more", "remove"))
    if word == "add":
        return (word, kind, chance.choice(("", "ann")), (text, number) if kind == "item" else (text,))
    if word == "remove":
        return (word, kind, number)
    if word == "change":
        return (word, "item", number, field, text if field == "name" else number) if kind == "item" else (word, kind, number, "text", text)
    return (word, "item", number, chance.choice(("many",) * 9 + ("name",)), chance.choice((-5, 3, 5, 7, 4999)))


class ByChance(unittest.TestCase):
    def test_against_the_words_of_the_document(self):
        chance = random.Random(31)
        done = refused = 0
        for _ in range(60):
            store, model = Store(KINDS), Model()
            for _ in range(60):
                deeds = tuple([some_deed(chance) for _ in range(chance.randrange(0, 4))])
                due = model.done(deeds)
                if isinstance(due, int):
                    self.assertEqual(refuses(self, Cannot, store.done, deeds).at, due)
                    refused += 1
                else:
                    self.assertEqual(store.done(deeds), due)
                    done += 1
                self.assertEqual((store.things(), store.version()), (model.as_of(-1), len(model.states) - 1))
                self.assertEqual(len(store), len(model.states[-1]))
            versions = range(store.version() + 1)
            self.assertEqual([store.as_of(version) for version in versions], [model.as_of(version) for version in versions])
            for _ in range(40):
                one, other = sorted([chance.choice(versions), chance.choice(versions)])
                before, behind = model.states[one], model.states[other]
                due = [key for key in set(before) | set(behind) if before.get(key) != behind.get(key)]
                self.assertEqual(store.turned(one, other), tuple(sorted(due)))
        self.assertGreater(min(done, refused), 500)


if __name__ == "__main__":
    unittest.main()
