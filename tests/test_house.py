"""6.1 to 6.3: houses, requests, sessions, gets and their tickets."""

import itertools
import unittest

from doorhouse.errors import NoNumber, NoRequest, NoSite
from doorhouse.house import House
from doorhouse.pages import page_of
from tests.helper import LOGINS, SITE, anything, get, house_with, objects, post, put, refuses, shown

NO_MANY = (-1, 1001, 10 ** 39, -(10 ** 39), True, False, None, "", "1", (1,), [1], {}, (), [])
NO_REQUESTS = (
    # Of no form.
    (), [], {}, None, "come", "", 0, True, ["come"], {"come": 1}, ("come", 1), ("come", ()), ("Come",), ("come ",), ("",), (None,), (1,),
    (["come"],), (("come",),), ("wait", 1), ("work", 1), ("undo",), ("go", 1, "/"), ("see", 1), ("get",), ("post",), ("login",), ("logout",),
    # A login that is none.
    ("login", 1, "ann"), ("login", 1, "ann", "pw-1", ""), ["login", 1, "ann", "pw-1"], ("login", -1, "ann", "pw-1"), ("login", True, "ann", "pw-1"),
    ("login", "1", "ann", "pw-1"), ("login", None, "ann", "pw-1"), ("login", [1], "ann", "pw-1"), ("login", 1, "Ann", "pw-1"),
    ("login", 1, "", "pw-1"), ("login", 1, "abcdefghi", "pw-1"), ("login", 1, None, "pw-1"), ("login", 1, ("ann",), "pw-1"),
    ("login", 1, ["ann"], "pw-1"), ("login", 1, "a-b", "pw-1"), ("login", 1, "ann", ""), ("login", 1, "ann", "PW"), ("login", 1, "ann", "123456789"),
    ("login", 1, "ann", None), ("login", 1, "ann", 5), ("login", 1, "ann", ["w"]), ("login", 1, "ann", "a b"), ("login", 1, "ann", "w\n"),
    # A logout that is none.
    ("logout", 1, 1), ("logout", -1), ("logout", True), ("logout", "1"), ("logout", None), ("logout", (1,)), ["logout", 1], ("logout", {}),
    # A get that is none.
    ("get", 1), ("get", 1, "/", 1), ["get", 1, "/"], ("get", -1, "/"), ("get", False, "/"), ("get", "0", "/"), ("get", None, "/"), ("get", [0], "/"),
    ("get", 1, ""), ("get", 1, "a"), ("get", 1, "//"), ("get", 1, "/a/"), ("get", 1, "/A"), ("get", 1, "/a/b/c/d/e/f"), ("get", 1, "/{a}"),
    ("get", 1, None), ("get", 1, 5), ("get", 1, ["/"]), ("get", 1, ("/",)), ("get", "/", 1), ("Get", 1, "/"),
    # A post that is none.
    ("post", 1, "/item", 1), ("post", 1, "/item", 1, {}, {}), ["post", 1, "/item", 1, {}], ("post", -1, "/item", 1, {}),
    ("post", True, "/item", 1, {}), ("post", None, "/item", 1, {}), ("post", "1", "/item", 1, {}), ("post", 1, "item", 1, {}),
    ("post", 1, "", 1, {}), ("post", 1, None, 1, {}), ("post", 1, ["/"], 1, {}), ("post", 1, "/item", -1, {}), ("post", 1, "/item", True, {}),
    ("post", 1, "/item", None, {}), ("post", 1, "/item", "1", {}), ("post", 1, "/item", [1], {}), ("post", 1, "/item", 1, ()),
    ("post", 1, "/item", 1, []), ("post", 1, "/item", 1, None), ("post", 1, "/item", 1, ""), ("post", 1, "/item", 1, (("a", 1),)),
    ("post", 1, "/item", 1, [("a", 1)]), ("post", 1, "/item", 1, {"": 1}), ("post", 1, "/item", 1, {"A": 1}), ("post", 1, "/item", 1, {1: 1}),
    ("post", 1, "/item", 1, {None: 1}), ("post", 1, "/item", 1, {("a",): 1}), ("post", 1, "/item", 1, {"abcdefghi": 1}),
    ("post", 1, "/item", 1, {"a": -1}), ("post", 1, "/item", 1, {"a": 10000}), ("post", 1, "/item", 1, {"a": True}),
    ("post", 1, "/item", 1, {"a": None}), ("post", 1, "/item", 1, {"a": "x" * 41}), ("post", 1, "/item", 1, {"a": "%"}),
    ("post", 1, "/item", 1, {"a": "x\n"}), ("post", 1, "/item", 1, {"a": ["x"]}), ("post", 1, "/item", 1, {"a": ("x",)}),
    ("post", 1, "/item", 1, {"a": {}}), ("post", 1, "/item", 1, {"a": 1, "b": None}), ("post", 1, "/item", 1, dict.fromkeys("abcdefghijk", 1)),
)


# What of the things of any kind is right at a place of a request.
def is_count(thing):
    return type(thing) is int and thing >= 0


def is_some_name(thing):
    return type(thing) is str and thing in ("a", "get", "post")


def is_some_path(thing):
    return type(thing) is str and thing in ("/", "/a")


def is_some_value(thing):
    return (is_count(thing) and thing <= 9999) or (type(thing) is str and len(thing) <= 40 and thing.isprintable())


def are_some_values(thing):
    return type(thing) is dict and all([type(key) is str and key in ("a", "no", "asker") and is_some_value(thing[key]) for key in thing])


class Houses(unittest.TestCase):
    def test_at_first(self):
        self.assertEqual(shown(House(SITE)), {
            "now": 0, "versions": [()], "sessions": (), "works": (), "log": (), "answers": (), "line": (), "len": 0})

    def test_keep_and_idle(self):
        for many in (0, 1, 999, 1000):
            self.assertEqual(shown(House(SITE, keep=many, idle=many)), shown(House(site=SITE)))
        for wrong in NO_MANY:
            refuses(self, NoNumber, House, SITE, keep=wrong)
            refuses(self, NoNumber, House, SITE, idle=wrong)
        for thing in anything():
            if not (isinstance(thing, int) and not isinstance(thing, bool) and thing in (0, 1)):
                refuses(self, NoNumber, House, SITE, keep=thing)
                refuses(self, NoNumber, House, SITE, idle=thing)

    def test_left_out(self):
        for site, keep, idle in itertools.product((SITE,), (0, 1), (49, 50, 51)):
            self.assertIs(House(site) == House(site, keep=keep, idle=idle), (keep, idle) == (0, 50))

    def test_keep_and_idle_by_their_names_alone(self):
        for places in ((), (SITE, 0), (SITE, 0, 50)):
            with self.assertRaises(TypeError):
                House(*places)

    def test_no_site(self):
        for name in SITE:
            refuses(self, NoSite, House, dict(SITE, **{name: None}))
            refuses(self, NoSite, House, {key: SITE[key] for key in SITE if key != name})
        for thing in anything():
            refuses(self, NoSite, House, thing)
            # Ahead of the numbers.
            refuses(self, NoSite, House, thing, keep=thing, idle=None)
        refuses(self, NoSite, House, dict(SITE, other=1), keep=-1)

    def test_a_site_that_is_changed_later(self):
        site = dict(SITE)
        house = House(site)
        before = dict(site)
        house.ask(get(0))
        self.assertEqual(site, before)
        site["pages"] = ()
        site["other"] = 1
        self.assertEqual(house.ask(get(0)), (200, "<p/>", 0))
        self.assertEqual(house, house_with(get(0), get(0)))

    def test_each_method_stands_in_the_class_itself(self):
        for name in ("__init__", "ask", "wait", "work", "undo", "now", "store", "sessions", "works", "log", "answers", "line", "twin", "__len__",
                     "__eq__"):
            self.assertIn(name, vars(House))


class Requests(unittest.TestCase):
    def setUp(self):
        self.house = house_with(*LOGINS, put(4, 1), 3, keep=2)
        self.before = shown(self.house)

    def refuse(self, error, action, *places, **names):
        refuses(self, error, action, *places, **names)
        self.assertEqual(shown(self.house), self.before)

    def test_no_requests(self):
        for thing in NO_REQUESTS:
            self.refuse(NoRequest, self.house.ask, thing)

    def test_of_anything(self):
        places = (
            (lambda thing: thing, None), (lambda thing: (thing,), None), (lambda thing: ("come", thing), None), (lambda thing: (thing, 1), None),
            (lambda thing: (thing, 1, "a", "a"), None), (lambda thing: (thing, 1, "/"), lambda thing: thing == "get"),
            (lambda thing: (thing, 1, "/", 1, {}), lambda thing: thing == "post"), (lambda thing: ("logout", thing), is_count),
            (lambda thing: ("login", thing, "a", "a"), is_count), (lambda thing: ("login", 1, thing, "a"), is_some_name),
            (lambda thing: ("login", 1, "a", thing), is_some_name), (lambda thing: ("get", thing, "/"), is_count),
            (lambda thing: ("get", 1, thing), is_some_path), (lambda thing: ("post", thing, "/", 1, {}), is_count),
            (lambda thing: ("post", 1, thing, 1, {}), is_some_path), (lambda thing: ("post", 1, "/", thing, {}), is_count),
            (lambda thing: ("post", 1, "/", 1, thing), are_some_values), (lambda thing: ("post", 1, "/", 1, {"a": thing}), is_some_value),
        )
        for thing in anything() + objects():
            for make, is_right in places:
                if is_right is None or not is_right(thing):
                    self.refuse(NoRequest, self.house.ask, make(thing))

    def test_by_name(self):
        house = House(SITE)
        self.assertEqual(house.ask(request=("come",)), (200, "", 1))
        with self.assertRaises(TypeError):
            house.ask()

    def test_great_numbers(self):
        for request in (("login", 10 ** 39, "ann", "pw-1"), ("logout", 10 ** 39), ("get", 10 ** 39, "/"), ("post", 10 ** 39, "/item", 10 ** 39, {})):
            self.assertEqual(self.house.ask(request), (403, "", 0))

    def test_ten_values(self):
        self.assertEqual(self.house.ask(("post", 4, "/note", 1, dict.fromkeys("abcdefghij", 1))), (409, "", 0))

    def test_no_ticks_and_steps(self):
        for wrong in NO_MANY:
            self.refuse(NoNumber, self.house.wait, wrong)
            self.refuse(NoNumber, self.house.work, wrong)
        for thing in anything():
            if not (isinstance(thing, int) and not isinstance(thing, bool) and thing in (0, 1)):
                self.refuse(NoNumber, self.house.wait, many=thing)
                self.refuse(NoNumber, self.house.work, many=thing)

    def test_wait(self):
        for many, now in ((0, 3), (1, 4), (1000, 1004), (7, 1011)):
            self.assertIsNone(self.house.wait(many))
            self.assertEqual(self.house.now(), now)
        self.house.wait()
        self.assertEqual(self.house.now(), 1012)
        self.house.wait(many=5)
        self.assertEqual(self.house.now(), 1017)
        self.assertEqual(self.house.log()[-6:], (("wait", 0), ("wait", 1), ("wait", 1000), ("wait", 7), ("wait", 1), ("wait", 5)))

    def test_values_that_are_changed_later(self):
        values = {"name": "ink", "many": 1, "sold": 2}
        request = ("post", 5, "/item", 1, values)
        self.assertEqual(self.house.ask(request), (303, "/", 0))
        self.assertEqual(values, {"name": "ink", "many": 1, "sold": 2})
        values["name"] = "other"
        values["more"] = 5
        told = self.house.log()[-1]
        self.assertEqual(told[4], {"name": "ink", "many": 1, "sold": 2})
        told[4]["name"] = "third"
        self.assertEqual(self.house.log()[-1][4], {"name": "ink", "many": 1, "sold": 2})
        self.assertEqual(self.house.ask(("post", 5, "/item", 1, {"name": "ink", "many": 1, "sold": 2})), (303, "/", 0))
        self.assertEqual(self.house.ask(request), (409, "", 0))


class Sessions(unittest.TestCase):
    def test_come(self):
        house = House(SITE)
        self.assertEqual([house.ask(("come",)) for _ in range(3)], [(200, "", 1), (200, "", 2), (200, "", 3)])
        self.assertEqual(house.sessions(), ((1, None), (2, None), (3, None)))

    def test_login(self):
        house = house_with(("come",), ("come",))
        self.assertEqual(house.ask(("login", 1, "ann", "pw-1")), (200, "", 3))
        self.assertEqual(house.sessions(), ((2, None), (3, "ann")))
        self.assertEqual(house.ask(get(1)), (403, "", 0))
        self.assertEqual(house.ask(get(3)), (200, "<p>ann</p>", 1))
        # Once more, and of one that is somebody's.
        self.assertEqual(house.ask(("login", 2, "ann", "pw-1")), (200, "", 4))
        self.assertEqual(house.ask(("login", 3, "bob", "b0b")), (200, "", 5))
        self.assertEqual(house.sessions(), ((4, "ann"), (5, "bob")))
        self.assertEqual(house.ask(("come",)), (200, "", 6))

    def test_login_of_others(self):
        house = house_with(("come",))
        for name, word in (("ann", "b0b"), ("ann", "pw-2"), ("bob", "pw-1"), ("eve", "pw-1"), ("cat", "b0b"), ("ann", "-")):
            self.assertEqual(house.ask(("login", 1, name, word)), (403, "", 0))
        # It goes on as it was, of no asker.
        self.assertEqual(house.sessions(), ((1, None),))
        self.assertEqual(house.ask(get(1)), (200, "<p/>", 1))
        self.assertEqual(house.ask(("come",)), (200, "", 2))

    def test_login_of_one_that_does_not_hold(self):
        house = house_with(("come",), ("logout", 1), ("come",), 51)
        for session in (0, 1, 2, 3):
            self.assertEqual(house.ask(("login", session, "ann", "pw-1")), (403, "", 0))
        self.assertEqual(house.sessions(), ())
        self.assertEqual(house.ask(("come",)), (200, "", 3))

    def test_logout(self):
        house = house_with(*LOGINS)
        self.assertEqual(house.ask(("logout", 5)), (200, "", 0))
        self.assertEqual(house.sessions(), ((4, "ann"), (6, "cat")))
        for session in (0, 1, 5, 7, 99):
            self.assertEqual(house.ask(("logout", session)), (403, "", 0))
        self.assertEqual(house.ask(("logout", 4)), (200, "", 0))
        self.assertEqual(house.ask(("come",)), (200, "", 7))
        self.assertEqual(house.sessions(), ((6, "cat"), (7, None)))

    def test_whatever_is_asked_of_one_that_does_not_hold(self):
        house = house_with(*LOGINS, ("logout", 4))
        for session in (1, 4, 7, 1000):
            for request in (("login", session, "ann", "pw-1"), ("logout", session), get(session), get(session, "/nowhere"), put(session, 1),
                            post(session, "/nowhere", 1), post(session, "/item", 0)):
                self.assertEqual(house.ask(request), (403, "", 0))

    def test_session_0(self):
        house = house_with(*LOGINS)
        self.assertEqual(house.ask(get(0)), (200, "<p/>", 0))
        self.assertEqual(house.ask(get(0)), (200, "<p/>", 0))
        self.assertEqual(house.ask(get(0, "/nowhere")), (404, "", 0))
        for request in (("login", 0, "ann", "pw-1"), ("logout", 0), put(0, 0), put(0, 1), post(0, "/nowhere", 0), post(0, "/note", 0, text="x")):
            self.assertEqual(house.ask(request), (403, "", 0))
        self.assertEqual(house.store().version(), 0)

    def test_just_idle_ticks_and_one_more(self):
        for idle in (0, 1, 50, 1000):
            for request in (get(1), ("login", 1, "ann", "pw-1"), ("logout", 1), post(1, "/nowhere", 0), ("login", 1, "ann", "x")):
                house = house_with(("come",), idle, idle=idle)
                self.assertEqual(house.sessions(), ((1, None),))
                self.assertNotEqual(house.twin().ask(get(1))[0], 403)
                first = house.twin().ask(request)
                house.wait(1)
                self.assertEqual(house.sessions(), ())
                self.assertEqual(house.ask(request), (403, "", 0))
                if request[-1] != "x":
                    self.assertNotEqual(first, (403, "", 0))

    def test_each_request_of_it_lets_it_hold_on(self):
        for request in (get(1), get(1, "/nowhere"), post(1, "/nowhere", 0), post(1, "/item", 9), ("login", 1, "ann", "other")):
            house = house_with(("come",), 5, request, 5, idle=5)
            self.assertEqual(house.sessions(), ((1, None),), request)
            house.wait(1)
            self.assertEqual(house.sessions(), ())

    def test_what_does_not_let_it_hold_on(self):
        for entry in (get(0), ("come",), get(2), ("logout", 2), ("work", 5), ("login", 2, "ann", "pw-1"), put(2, 1)):
            house = house_with(("come",), ("come",), 5, entry, 1, idle=5)
            self.assertNotIn((1, None), house.sessions(), entry)

    def test_an_ended_one_stays_so(self):
        house = house_with(("come",), 6, get(1), idle=5)
        self.assertEqual(house.answers()[-1], (403, "", 0))
        self.assertEqual(house.sessions(), ())
        self.assertEqual(house.ask(get(1)), (403, "", 0))

    def test_a_login_begins_anew(self):
        house = house_with(("come",), 5, ("login", 1, "ann", "pw-1"), 5, idle=5)
        self.assertEqual(house.sessions(), ((2, "ann"),))
        house.wait(1)
        self.assertEqual(house.sessions(), ())

    def test_idle_is_50_where_it_is_left_out(self):
        house = House(SITE)
        house.ask(("come",))
        house.wait(50)
        self.assertEqual(house.sessions(), ((1, None),))
        house.wait(1)
        self.assertEqual(house.sessions(), ())

    def test_numbers_are_never_given_again(self):
        house = house_with(("come",), ("logout", 1), ("come",), 51)
        self.assertEqual(house.ask(("come",)), (200, "", 3))


class Gets(unittest.TestCase):
    def test_pages(self):
        house = house_with(*LOGINS, put(4, 1), put(5, 1, "ink", 7, 2))
        things = house.store().things()
        for session, asker in ((4, ("ann", ())), (5, ("bob", ("clerk",))), (6, ("cat", ("boss", "clerk"))), (0, None)):
            for path in ("/", "/item/1", "/item/2"):
                code, text, ticket = house.ask(get(session, path))
                self.assertEqual((code, text), (200, page_of(SITE, asker, things, path)))
            for path in ("/item/3", "/item", "/nowhere", "/pair/1/a/1"):
                self.assertEqual(house.ask(get(session, path)), (404, "", 0))

    def test_tickets(self):
        house = house_with(("come",), ("come",))
        for session, path, ticket in ((1, "/", 1), (1, "/", 2), (2, "/", 1), (1, "/nowhere", 0), (1, "/", 3), (0, "/", 0), (2, "/", 2), (1, "/", 4)):
            self.assertEqual(house.ask(get(session, path))[2], ticket)
        house.ask(("login", 1, "ann", "pw-1"))
        self.assertEqual(house.ask(get(3)), (200, "<p>ann</p>", 1))

    def test_nothing_else_gives_tickets(self):
        house = house_with(("come",), get(1), post(1, "/note", 1, text="x"), post(1, "/note", 1, text="x"), ("login", 1, "ann", "-"), 5, ("work", 5))
        self.assertEqual(house.ask(get(1))[2], 2)

    def test_an_empty_page(self):
        site = dict(SITE, routes=(("a", "get", "/"),), pages=(("a", "", ()),), forms=())
        house = house_with(("come",), site=site)
        self.assertEqual(house.ask(get(1)), (200, "", 1))
        self.assertEqual(house.ask(get(0)), (200, "", 0))


if __name__ == "__main__":
    unittest.main()
