"""1.3: path_of and hidden."""

import itertools
import random
import unittest

from doorhouse.errors import NoName, NoRoutes, NoValues
from doorhouse.routes import are_routes, found, hidden, is_path, path_of
from tests.helper import anything, refuses
from tests.test_found import some_routes

SITE = (
    ("home", "get", "/"),
    ("about", "get", "/about/us"),
    ("item", "get", "/item/{no:n}"),
    ("tab", "get", "/item/{no:n}/{tab}"),
    ("send", "post", "/{who}/to/{whom}"),
    ("deep", "post", "/{a}/{b:n}/{c}/{d:n}/{e}"),
)


class PathOf(unittest.TestCase):
    def test_a_path_of_each_kind_of_hole(self):
        for name, values, path in (
            ("home", (), "/"),
            ("about", (), "/about/us"),
            ("item", (("no", 17),), "/item/17"),
            ("item", (("no", 0),), "/item/0"),
            ("item", (("no", 9999),), "/item/9999"),
            ("tab", (("no", 5), ("tab", "more")), "/item/5/more"),
            ("tab", (("no", 5), ("tab", "007")), "/item/5/007"),
            ("send", (("who", "a-1"), ("whom", "abcdefgh")), "/a-1/to/abcdefgh"),
            ("deep", (("a", "5"), ("b", 6), ("c", "-"), ("d", 0), ("e", "x")), "/5/6/-/0/x"),
        ):
            self.assertEqual(path_of(SITE, name, values), path)

    def test_values_left_out(self):
        self.assertEqual(path_of(SITE, "home"), "/")
        self.assertEqual(path_of(SITE, "about"), "/about/us")
        for name in ("item", "tab", "send"):
            refuses(self, NoValues, path_of, SITE, name)

    def test_the_one_of_this_name(self):
        routes = (("a", "get", "/x"), ("b", "post", "/y"), ("c", "get", "/x"))
        self.assertEqual([path_of(routes, name) for name in "abc"], ["/x", "/y", "/x"])

    def test_also_where_another_route_is_found(self):
        routes = (("any", "get", "/{w}"), ("x", "get", "/x"), ("n", "get", "/{n:n}"))
        self.assertEqual(path_of(routes, "any", (("w", "x"),)), "/x")
        self.assertEqual(path_of(routes, "any", (("w", "7"),)), "/7")
        self.assertEqual(found(routes, "get", "/x"), ("x", ()))

    def test_by_name_in_another_order(self):
        self.assertEqual(path_of(values=(("no", 3),), name="item", routes=SITE), "/item/3")
        self.assertEqual(path_of(name="home", routes=SITE), "/")


class WrongValues(unittest.TestCase):
    def refuse(self, name, values):
        refuses(self, NoValues, path_of, SITE, name, values)

    def test_of_other_names(self):
        self.refuse("item", (("nr", 5),))
        self.refuse("tab", (("no", 5), ("tabs", "x")))
        self.refuse("tab", (("no", 5), ("no", "x")))
        self.refuse("item", ((None, 5),))
        self.refuse("item", ((["no"], 5),))

    def test_of_another_order(self):
        self.refuse("tab", (("tab", "x"), ("no", 5)))
        self.refuse("send", (("whom", "b"), ("who", "a")))
        self.refuse("item", ((5, "no"),))

    def test_of_another_kind(self):
        for wrong in ("5", "", -1, 10000, True, False, None, (5,), [5], "x", {5: 5}):
            self.refuse("item", (("no", wrong),))
        for wrong in (5, 0, "", "abcdefghi", "A", "a b", "a/b", "/a", "{x}", True, None, ("x",), ["x"], "x\n"):
            self.refuse("tab", (("no", 5), ("tab", wrong)))

    def test_of_another_count(self):
        self.refuse("home", (("no", 5),))
        self.refuse("item", ())
        self.refuse("item", (("no", 5), ("no", 5)))
        self.refuse("tab", (("no", 5),))
        self.refuse("tab", (("no", 5), ("tab", "x"), ("more", "y")))

    def test_of_another_form(self):
        for wrong in (
            [("no", 5)], (["no", 5],), {"no": 5}, ({"no": 5},), ("no", 5), ("no",), (("no", 5, 5),), (("no",),), ((),),
            "no", ("nn",), 5, None, (None,), ((("no", 5),),),
        ):
            self.refuse("item", wrong)
        for wrong in ([], {}, "", None, 0, False, ((),)):
            self.refuse("home", wrong)


class Refusals(unittest.TestCase):
    def test_of_anything(self):
        names = [name for name, verb, pattern in SITE]
        for thing in anything():
            if not are_routes(thing):
                refuses(self, NoRoutes, path_of, thing, "home")
                refuses(self, NoRoutes, hidden, thing)
            if thing not in names:
                refuses(self, NoName, path_of, SITE, thing)
            refuses(self, NoValues, path_of, SITE, "tab", thing)
            refuses(self, NoValues, path_of, SITE, "send", (("who", "a"), (thing, "b")))
            if type(thing) is not int:
                refuses(self, NoValues, path_of, SITE, "item", (("no", thing),))
            if thing != ():
                refuses(self, NoValues, path_of, SITE, "home", thing)

    def test_a_name_that_is_no_routes(self):
        for name in ("x", "hom", "homes", "HOME", "", "get", "/", None, 5, ["home"], ("home",)):
            refuses(self, NoName, path_of, SITE, name)

    def test_the_first_of_several(self):
        for wrong in (None, 5, ["home"], {}, (("no", 5),)):
            refuses(self, NoRoutes, path_of, wrong, wrong, wrong)
            refuses(self, NoRoutes, path_of, wrong, "home", wrong)
            refuses(self, NoRoutes, path_of, wrong, wrong)
            refuses(self, NoName, path_of, SITE, wrong, wrong)
            refuses(self, NoName, path_of, SITE, "other", wrong)
            refuses(self, NoName, path_of, values=wrong, name=wrong, routes=SITE)
            refuses(self, NoValues, path_of, values=wrong, name="home", routes=SITE)


class ThereAndBack(unittest.TestCase):
    def test_what_is_found_has_these_values(self):
        chance = random.Random(3)
        back = 0
        for _ in range(400):
            routes = some_routes(chance, chance.randrange(1, 11))
            for name, verb, pattern in routes:
                values = []
                for part in pattern.split("/"):
                    if part.endswith(":n}"):
                        values.append((part[1:-3], chance.choice((0, 7, 8, 9999))))
                    elif part.endswith("}"):
                        values.append((part[1:-1], chance.choice(("x", "7", "y", "0", "00"))))
                path = path_of(routes, name, tuple(values))
                self.assertTrue(is_path(path))
                told = found(routes, verb, path)
                self.assertIsNotNone(told)
                if told[0] == name:
                    self.assertEqual(told[1], tuple(values))
                    back += 1
        self.assertGreater(back, 500)

    def test_the_path_that_was_found(self):
        for path in ("/", "/about/us", "/item/17", "/item/0/x"):
            name, values = found(SITE, "get", path)
            self.assertEqual(path_of(SITE, name, values), path)


def reaches(routes, route):
    """Tell whether some path finds a route, by trying words that no pattern has beside those that they have."""
    name, verb, pattern = route
    choices = []
    for part in pattern.split("/")[1:]:
        choices.append(["4321", "7"] if part.endswith(":n}") else ["fresh", "x"] if part.endswith("}") else [part])
    paths = ["/" + "/".join(words) for words in itertools.product(*choices)]
    return any(found(routes, verb, path)[0] == name for path in paths)


class Hidden(unittest.TestCase):
    def test_none_hidden(self):
        self.assertEqual(hidden(SITE), ())
        self.assertEqual(hidden((("a", "get", "/"),)), ())

    def test_alike_but_for_the_names_of_holes(self):
        routes = (("a", "get", "/x/{p}/{q:n}"), ("b", "get", "/x/{r}/{p:n}"))
        self.assertEqual(hidden(routes), (("b", "a"),))
        self.assertEqual(hidden(routes[::-1]), (("a", "b"),))

    def test_alike_whole(self):
        self.assertEqual(hidden((("b", "get", "/"), ("a", "get", "/"))), (("a", "b"),))
        self.assertEqual(hidden((("b", "post", "/x"), ("a", "post", "/x"))), (("a", "b"),))

    def test_of_the_other_verb(self):
        self.assertEqual(hidden((("a", "get", "/{p}"), ("b", "post", "/{q}"))), ())
        routes = (("a", "get", "/{p}"), ("b", "post", "/{q}"), ("c", "post", "/{r}"), ("d", "get", "/{s}"))
        self.assertEqual(hidden(routes), (("c", "b"), ("d", "a")))

    def test_the_first_one_ahead(self):
        routes = (("z", "get", "/{p}"), ("m", "get", "/{q}"), ("a", "get", "/{r}"), ("b", "get", "/{p}"))
        self.assertEqual(hidden(routes), (("m", "z"), ("a", "z"), ("b", "z")))

    def test_unlike_ones(self):
        for one, other in (
            ("/x", "/y"), ("/{a}", "/{a:n}"), ("/{a:n}", "/{a}"), ("/{a}", "/x"), ("/x", "/{a}"), ("/5", "/{a:n}"),
            ("/{a:n}", "/5"), ("/{a}", "/{a}/{b}"), ("/", "/{a}"), ("/x/{a}", "/{a}/x"), ("/a", "/{a}"), ("/n", "/{n:n}"),
        ):
            self.assertEqual(hidden((("p", "get", one), ("q", "get", other))), (), (one, other))

    def test_just_those_that_no_path_finds(self):
        chance = random.Random(4)
        many = 0
        for _ in range(400):
            routes = some_routes(chance, chance.randrange(1, 11))
            due = [route[0] for route in routes if not reaches(routes, route)]
            self.assertEqual([name for name, other in hidden(routes)], due, routes)
            for name, other in hidden(routes):
                names = [route[0] for route in routes]
                self.assertLess(names.index(other), names.index(name))
                self.assertNotIn(other, due)
            many += len(due)
        self.assertGreater(many, 100)

    def test_kinds_and_by_name(self):
        told = hidden(routes=(("b", "get", "/"), ("a", "get", "/")))
        self.assertEqual(told, (("a", "b"),))
        self.assertEqual((type(told), type(told[0])), (tuple, tuple))
        self.assertEqual(hidden(SITE), hidden(SITE))


if __name__ == "__main__":
    unittest.main()
