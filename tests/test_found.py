"""1.2: found and verbs_of."""

import itertools
import random
import unittest

from doorhouse.errors import NoPath, NoRoutes, NoVerb
from doorhouse.routes import are_routes, found, is_path, verbs_of
from tests.helper import anything, refuses

SHOP = (
    ("home", "get", "/"),
    ("any", "get", "/{what}"),
    ("number", "get", "/{no:n}"),
    ("new", "get", "/new"),
    ("items", "get", "/items/{no:n}/{tab}"),
    ("make", "post", "/items"),
    ("buy", "post", "/items/{no:n}"),
)


class Found(unittest.TestCase):
    def test_a_word_an_n_and_others(self):
        for path, told in (
            ("/", ("home", ())),
            ("/new", ("new", ())),
            ("/17", ("number", (("no", 17),))),
            ("/old", ("any", (("what", "old"),))),
            ("/items", ("any", (("what", "items"),))),
            ("/items/5/more", ("items", (("no", 5), ("tab", "more")))),
            ("/items/5/6", ("items", (("no", 5), ("tab", "6")))),
        ):
            self.assertEqual(found(SHOP, "get", path), told)

    def test_none_where_nothing_is_met(self):
        for path in ("/items/5", "/items/x/more", "/a/b", "/items/5/more/x", "/a/b/c/d/e"):
            self.assertIsNone(found(SHOP, "get", path), path)
        for path in ("/", "/new", "/17", "/items/x", "/items/5/more"):
            self.assertIsNone(found(SHOP, "post", path), path)

    def test_of_this_verb_alone(self):
        routes = (("a", "post", "/x"), ("b", "get", "/{w}"), ("c", "get", "/x"), ("d", "post", "/{w}"))
        self.assertEqual(found(routes, "get", "/x"), ("c", ()))
        self.assertEqual(found(routes, "post", "/x"), ("a", ()))
        self.assertEqual(found(routes, "get", "/y"), ("b", (("w", "y"),)))
        self.assertEqual(found(routes, "post", "/y"), ("d", (("w", "y"),)))

    def test_figures(self):
        routes = (("n", "get", "/{no:n}"),)
        for number in (0, 1, 9, 10, 99, 100, 999, 1000, 9999):
            name, values = found(routes, "get", f"/{number}")
            self.assertEqual((name, values), ("n", (("no", number),)))
            self.assertIs(type(values[0][1]), int)
        for word in ("00", "01", "007", "0000", "10000", "99999", "00000001", "-1", "1-", "-", "a", "1a", "a1", "-0"):
            self.assertIsNone(found(routes, "get", f"/{word}"), word)

    def test_figures_that_are_no_number_go_to_others(self):
        routes = (("n", "get", "/{no:n}"), ("w", "get", "/{no}"))
        for word in ("00", "01", "10000", "0x"):
            self.assertEqual(found(routes, "get", f"/{word}"), ("w", (("no", word),)))
        self.assertEqual(found(routes, "get", "/0"), ("n", (("no", 0),)))
        self.assertEqual(found(routes, "get", "/9999"), ("n", (("no", 9999),)))

    def test_a_word_of_figures_goes_ahead_of_n(self):
        routes = (("n", "get", "/{no:n}"), ("w", "get", "/7"), ("z", "get", "/007"))
        self.assertEqual(found(routes, "get", "/7"), ("w", ()))
        self.assertEqual(found(routes, "get", "/007"), ("z", ()))
        self.assertEqual(found(routes, "get", "/8"), ("n", (("no", 8),)))

    def test_the_kind_of_each_value(self):
        routes = (("a", "get", "/{a}/{b:n}"),)
        self.assertEqual(found(routes, "get", "/12/34"), ("a", (("a", "12"), ("b", 34))))
        name, values = found(routes, "get", "/12/34")
        self.assertEqual([type(value) for _, value in values], [str, int])
        self.assertEqual([type(thing) for thing in (name, values, values[0])], [str, tuple, tuple])

    def test_values_in_the_patterns_order(self):
        routes = (("a", "get", "/{z}/x/{b:n}/{a}/{y:n}"),)
        told = ("a", (("z", "q"), ("b", 1), ("a", "2"), ("y", 3)))
        self.assertEqual(found(routes, "get", "/q/x/1/2/3"), told)

    def test_the_most_particular_at_the_first_place(self):
        sorts = {"word": "5", "n": "{%s:n}", "other": "{%s}"}
        order = ("word", "n", "other")
        pairs = list(itertools.product(order, repeat=3))
        for one, other in itertools.product(pairs, repeat=2):
            patterns = []
            for kinds in (one, other):
                parts = [sorts[kind] % "abc"[at] if kind != "word" else "5" for at, kind in enumerate(kinds)]
                patterns.append("/" + "/".join(parts))
            routes = (("one", "get", patterns[0]), ("other", "get", patterns[1]))
            due = "one"
            for mine, yours in zip(one, other):
                if mine != yours:
                    due = "one" if order.index(mine) < order.index(yours) else "other"
                    break
            self.assertEqual(found(routes, "get", "/5/5/5")[0], due, routes)

    def test_an_early_place_goes_ahead_of_many_later_ones(self):
        routes = (("late", "get", "/{a}/x/y/z"), ("early", "get", "/w/{b}/{c}/{d}"))
        self.assertEqual(found(routes, "get", "/w/x/y/z")[0], "early")
        self.assertEqual(found(routes[::-1], "get", "/w/x/y/z")[0], "early")
        routes = (("late", "get", "/{a}/1/x"), ("early", "get", "/{a:n}/{b}/{c}"))
        self.assertEqual(found(routes, "get", "/1/1/x")[0], "early")

    def test_the_one_told_first_of_equals(self):
        routes = (("c", "get", "/{x}/{y:n}"), ("a", "get", "/{a}/{b:n}"), ("b", "get", "/{b}/{a:n}"))
        for rows in itertools.permutations(routes):
            self.assertEqual(found(rows, "get", "/q/1")[0], rows[0][0])
        root = (("b", "get", "/"), ("a", "get", "/"))
        self.assertEqual(found(root, "get", "/"), ("b", ()))


def goes_ahead(one, other):
    """Tell whether the first of two patterns is more particular, as 1.2 has it, said a second time."""
    for mine, yours in zip(one.split("/"), other.split("/")):
        mine_sort, yours_sort = [(part[:1] == "{") + (part[:1] == "{" and part[-3:] != ":n}") for part in (mine, yours)]
        if mine_sort != yours_sort:
            return mine_sort < yours_sort
    return False


def is_met(pattern, path):
    parts, words = pattern.split("/")[1:], path.split("/")[1:]
    if len(parts) != len(words):
        return False
    for part, word in zip(parts, words):
        if part[:1] != "{" and part != word:
            return False
        if part[-3:] == ":n}" and word not in ("7", "8"):
            return False
    return True


def some_routes(chance, many):
    """Tell routes made by chance, of words, numbers and holes that often meet the same paths."""
    routes = []
    for at in range(many):
        parts = []
        for place in range(chance.randrange(1, 4)):
            hole = "abcde"[(place + at) % 5]
            parts.append(chance.choice(("x", "7", "{" + hole + "}", "{" + hole + ":n}")))
        routes.append(("abcdefghij"[at], chance.choice(("get", "get", "post")), "/" + "/".join(parts)))
    return tuple(routes)


class ByChance(unittest.TestCase):
    def test_against_the_words_of_the_document(self):
        chance = random.Random(2)
        paths = ["/" + "/".join(words) for many in (1, 2, 3) for words in itertools.product(("x", "7", "8", "y"), repeat=many)]
        met = 0
        for _ in range(60):
            routes = some_routes(chance, chance.randrange(1, 11))
            self.assertTrue(are_routes(routes))
            for path in paths:
                for verb in ("get", "post"):
                    due = None
                    for name, own, pattern in routes:
                        if own == verb and is_met(pattern, path) and (due is None or goes_ahead(pattern, due[1])):
                            due = (name, pattern)
                    told = found(routes, verb, path)
                    self.assertEqual(told and told[0], due and due[0], (routes, verb, path))
                    met += told is not None
                verbs = tuple(verb for verb in ("get", "post") if found(routes, verb, path) is not None)
                self.assertEqual(verbs_of(routes, path), verbs)
        self.assertGreater(met, 1000)


class VerbsOf(unittest.TestCase):
    def test_get_post_both_and_none(self):
        routes = (("p", "post", "/{w}"), ("g", "get", "/{n:n}"), ("q", "post", "/a/b"), ("h", "get", "/c/d"))
        for path, told in (
            ("/x", ("post",)), ("/5", ("get", "post")), ("/a/b", ("post",)), ("/c/d", ("get",)), ("/", ()), ("/a/c", ()),
        ):
            self.assertEqual(verbs_of(routes, path), told)
            self.assertEqual(verbs_of(routes[::-1], path), told)

    def test_a_tuple(self):
        self.assertIs(type(verbs_of(SHOP, "/a/b")), tuple)


class Refusals(unittest.TestCase):
    def test_of_anything(self):
        for thing in anything():
            if not are_routes(thing):
                refuses(self, NoRoutes, found, thing, "get", "/")
                refuses(self, NoRoutes, verbs_of, thing, "/")
            if thing not in ("get", "post"):
                refuses(self, NoVerb, found, SHOP, thing, "/")
            if not is_path(thing):
                refuses(self, NoPath, found, SHOP, "get", thing)
                refuses(self, NoPath, verbs_of, SHOP, thing)

    def test_a_pattern_is_no_path(self):
        refuses(self, NoPath, found, SHOP, "get", "/{what}")
        refuses(self, NoPath, verbs_of, SHOP, "/{what}")

    def test_the_first_of_several(self):
        for wrong in (None, 5, "put", ["get"], (), {}):
            refuses(self, NoRoutes, found, wrong, wrong, wrong)
            refuses(self, NoRoutes, found, wrong, "get", wrong)
            refuses(self, NoRoutes, found, wrong, wrong, "/")
            refuses(self, NoVerb, found, SHOP, wrong, wrong)
            refuses(self, NoRoutes, verbs_of, wrong, wrong)
            refuses(self, NoRoutes, found, path=wrong, verb=wrong, routes=wrong)
            refuses(self, NoVerb, found, path=wrong, verb=wrong, routes=SHOP)

    def test_lists_stay_as_they_were(self):
        routes = [["a", "get", "/"]]
        refuses(self, NoRoutes, found, routes, ["get"], ["/"])
        self.assertEqual(routes, [["a", "get", "/"]])


class HandedIn(unittest.TestCase):
    def test_by_name_in_another_order(self):
        self.assertEqual(found(path="/17", routes=SHOP, verb="get"), ("number", (("no", 17),)))
        self.assertEqual(found(SHOP, path="/17", verb="get"), ("number", (("no", 17),)))
        self.assertEqual(verbs_of(path="/17", routes=SHOP), ("get",))

    def test_nothing_may_be_left_out(self):
        for call in (lambda: found(SHOP, "get"), lambda: verbs_of(SHOP)):
            with self.assertRaises(TypeError):
                call()

    def test_the_same_answer_again(self):
        for path in ("/17", "/new", "/a/b"):
            self.assertEqual(found(SHOP, "get", path), found(SHOP, "get", path))
            self.assertEqual(verbs_of(SHOP, path), verbs_of(SHOP, path))


if __name__ == "__main__":
    unittest.main()
