"""1.1: is_path, is_pattern and are_routes, of anything."""

import random
import re
import unittest

from doorhouse.routes import are_routes, is_path, is_pattern
from tests.helper import anything

PATHS = ("/", "/a", "/0", "/-", "/abcdefgh", "/12345678", "/a/b/c/d/e", "/a/a/a", "/007/--/x-1", "/n", "/get")
NO_PATHS = (
    "", "a", "a/b", "//", "///", "/a/", "//a", "/a//b", "/abcdefghi", "/a/123456789", "/a/b/c/d/e/f", "/a/b/c/d/e/",
    "/A", "/a b", "/ ", " /a", "/a ", "/a\n", "\n/a", "/a\t", "/a.b", "/a_b", "/{a}", "/{a:n}", "/a?b", "/a/../b", "\\a",
)
PATTERNS = PATHS + (
    "/{a}", "/{a:n}", "/{abcdefgh}", "/{abcdefgh:n}", "/{n}", "/{n:n}", "/a/{a}", "/{a}/a/{b}", "/{a:n}/{b:n}/{c}",
    "/{a}/{b}/{c}/{d}/{e}", "/{a:n}/{b:n}/{c:n}/{d:n}/{e:n}", "/abcdefgh/{abcdefgh:n}", "/{get}/{post}",
)
NO_PATTERNS = (
    "", "a", "//", "/a/", "//{a}", "/{a}/", "/{a}//{b}", "/abcdefghi", "/{abcdefghi}", "/{abcdefghi:n}", "/A", "/a b",
    "/{}", "/{:n}", "/{", "/}", "/{a", "/a}", "/{a:n", "/a:n}", "/a:n", "/{a:}", "/{a:m}", "/{a:nn}", "/{a:n:n}",
    "/{a: n}", "/{a :n}", "/{ a}", "/{a }", "/{a:N}", "/{A}", "/{a1}", "/{1}", "/{a-b}", "/{-:n}", "/{{a}}", "/{a}{b}",
    "/x{a}", "/{a}x", "/{a:n}x", "/{a}\n", "/{a\n}", "{a}", "/{a}/{a}", "/{a}/{a:n}", "/{a:n}/{a:n}", "/{a}/b/{a}",
    "/{a}/{b}/{c}/{d}/{a}", "/{a}/{b}/{c}/{d}/{e}/{f}", "/{a}/{b}/{c}/{d}/{e}/", "/{n:a}", "/{:n:n}", "/n}",
)

# The form of paths and patterns, said a second time.
PATH_FORM = re.compile(r"/|(/[a-z0-9-]{1,8}){1,5}")
PATTERN_FORM = re.compile(r"/|(/([a-z0-9-]{1,8}|\{[a-z]{1,8}(:n)?\})){1,5}")


def has_pattern_form(text):
    names = re.findall(r"\{([a-z]*)", text)
    return PATTERN_FORM.fullmatch(text) is not None and len(set(names)) == len(names)


class Paths(unittest.TestCase):
    def test_paths(self):
        for thing in PATHS:
            self.assertIs(is_path(thing), True, thing)

    def test_no_paths(self):
        for thing in NO_PATHS:
            self.assertIs(is_path(thing), False, thing)

    def test_by_its_name(self):
        self.assertIs(is_path(thing="/a"), True)
        self.assertIs(is_path(thing="a"), False)


class Patterns(unittest.TestCase):
    def test_patterns(self):
        for thing in PATTERNS:
            self.assertIs(is_pattern(thing), True, thing)

    def test_no_patterns(self):
        for thing in NO_PATTERNS:
            self.assertIs(is_pattern(thing), False, thing)

    def test_by_its_name(self):
        self.assertIs(is_pattern(thing="/{a}"), True)
        self.assertIs(is_pattern(thing="{a}"), False)


class Forms(unittest.TestCase):
    def test_made_by_chance(self):
        chance = random.Random(1)
        pieces = ("/", "/", "/a", "/abcdefgh", "/{a}", "/{b:n}", "/{c}", "i", "{", "}", ":n", ":", "0", "-", "A", "\n", " ")
        told = {True: 0, False: 0}
        for _ in range(20000):
            text = "".join(chance.choice(pieces) for _ in range(chance.randrange(1, 7)))
            self.assertIs(is_path(text), PATH_FORM.fullmatch(text) is not None, text)
            self.assertIs(is_pattern(text), has_pattern_form(text), text)
            told[is_pattern(text)] += 1
        self.assertGreater(min(told.values()), 1000)


def many_routes(many):
    return tuple((name, "get", "/" + name) for name in "abcdefghijklmnop"[:many])


class Routes(unittest.TestCase):
    def test_routes(self):
        for thing in (
            (("home", "get", "/"),),
            (("a", "get", "/"), ("b", "get", "/")),
            (("a", "get", "/x/{a:n}"), ("b", "post", "/x/{a:n}")),
            (("abcdefgh", "post", "/{a}/{b}/{c}/{d}/{e:n}"),),
            (("get", "post", "/post"), ("post", "get", "/get")),
        ):
            self.assertIs(are_routes(thing), True, thing)

    def test_one_to_ten(self):
        for many in range(16):
            self.assertIs(are_routes(many_routes(many)), 1 <= many <= 10, many)

    def test_names_unlike(self):
        for routes in (
            (("a", "get", "/"), ("a", "get", "/")),
            (("a", "get", "/"), ("a", "post", "/b")),
            (("a", "get", "/"), ("b", "get", "/b"), ("a", "get", "/c")),
        ):
            self.assertIs(are_routes(routes), False, routes)

    def test_each_by_itself(self):
        right = ("a", "get", "/")
        for wrong in (
            ("", "get", "/"), ("abcdefghi", "get", "/"), ("A", "get", "/"), ("a1", "get", "/"), (1, "get", "/"),
            (None, "get", "/"), (["a"], "get", "/"), (("a",), "get", "/"),
            ("b", "put", "/"), ("b", "GET", "/"), ("b", "", "/"), ("b", "ge", "/"), ("b", "get ", "/"),
            ("b", None, "/"), ("b", ["get"], "/"), ("b", ("get",), "/"), ("b", 0, "/"), ("b", {"get": 1}, "/"),
            ("b", "get", ""), ("b", "get", "b"), ("b", "get", "/{b}/{b}"), ("b", "get", None), ("b", "get", ["/"]),
            ("b", "get"), ("b", "get", "/", "/"), ("b",), (), ["b", "get", "/"], "b", None, {"b": "get"}, 5, True,
        ):
            for routes in ((wrong,), (right, wrong), (wrong, right), (right, wrong, ("c", "post", "/c"))):
                self.assertIs(are_routes(routes), False, routes)

    def test_no_tuple(self):
        routes = (("a", "get", "/"), ("b", "get", "/b"))
        for thing in (list(routes), {"a": routes}, dict((route, route) for route in routes), (list(routes),), (routes,)):
            self.assertIs(are_routes(thing), False, thing)

    def test_by_its_name(self):
        self.assertIs(are_routes(thing=(("a", "get", "/"),)), True)


class Anything(unittest.TestCase):
    def test_true_or_false_of_anything(self):
        for thing in anything():
            for tell in (is_path, is_pattern, are_routes):
                self.assertIs(type(tell(thing)), bool, thing)
            self.assertIs(is_path(thing), isinstance(thing, str) and PATH_FORM.fullmatch(thing) is not None, thing)
            self.assertIs(is_pattern(thing), isinstance(thing, str) and has_pattern_form(thing), thing)
            self.assertIs(are_routes(thing), thing == (("a", "get", "/"),), thing)

    def test_anything_at_each_place_of_a_route(self):
        for thing in anything():
            self.assertIs(are_routes(((thing, "get", "/"),)), thing in ("a", "get", "post"), thing)
            self.assertIs(are_routes((("a", thing, "/"),)), thing in ("get", "post"), thing)
            self.assertIs(are_routes((("a", "get", thing),)), is_pattern(thing), thing)


if __name__ == "__main__":
    unittest.main()
