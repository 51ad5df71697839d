"""5.1 and 5.2: what a site is, and the first of its names that is wrong."""

import itertools
import unittest

from doorhouse.sites import is_site, wrong_in
from tests.helper import KINDS, SITE, anything, objects, tells

NAMES = ("routes", "kinds", "rules", "people", "works", "pages", "forms")
KIND = ("item", (("name", "text"), ("many", "number")))
# A small one, whose names are put in otherwise below.
SMALL = {
    "routes": (("home", "get", "/"), ("one", "get", "/{word}/{no:n}"), ("do", "post", "/{word}/{no:n}/{other:n}")),
    "kinds": (KIND, ("note", (("text", "text"),))),
    "rules": (("all", "see", "item", ""),),
    "people": (("ann", "w", ()),),
    "works": (("step", "item", (("many", 1),)),),
    "pages": (("home", "<p/>", ()), ("one", "{{each x}}{{name}}{{end}}", (("x", "item", "no"), ("y", "note", "all")))),
    "forms": (("do", (), ("remove", "item", "no"), "one"),),
}


def small(**others):
    return {**SMALL, **others}


def with_page(page):
    return small(pages=(SMALL["pages"][0], page))


def with_form(form):
    return small(forms=(form,))


def with_deed(fields, deed):
    return with_form(("do", fields, deed, "home"))


class Told(unittest.TestCase):
    def told(self, thing, name):
        self.assertEqual(tells(self, wrong_in, thing), name, thing)
        self.assertIs(tells(self, is_site, thing), name is None, thing)

    def each(self, name, rights, wrongs):
        for thing in rights:
            self.told(small(**{name: thing}), None)
        for thing in wrongs:
            self.told(small(**{name: thing}), name)


class Sites(Told):
    def test_sites(self):
        self.told(SITE, None)
        self.told(SMALL, None)
        self.told(dict(reversed(list(SITE.items()))), None)

    def test_the_least_site(self):
        self.told({"routes": (("a", "get", "/"),), "kinds": (("a", (("a", "text"),)),), "rules": (), "people": (), "works": (),
                   "pages": (("a", "", ()),), "forms": ()}, None)

    def test_other_names(self):
        for thing in ({}, [], (), None, "site", 0, True, list(SMALL), tuple(SMALL.items()), list(SMALL.items()), [SMALL], (SMALL,)):
            self.told(thing, "site")
        for name in NAMES:
            fewer = {key: SMALL[key] for key in SMALL if key != name}
            self.told(fewer, "site")
            for other in (name.title(), name[:-1], name + " ", "site", None, 0, (name,)):
                self.told({**fewer, other: SMALL[name]}, "site")
                self.told({**SMALL, other: SMALL[name]}, "site")
                self.told({**SMALL, name: None, other: SMALL[name]}, "site")

    def test_of_anything(self):
        for thing in anything() + objects():
            self.told(thing, "site")
            for name in NAMES:
                told = name
                if isinstance(thing, tuple) and thing == () and name in ("rules", "people", "works"):
                    told = None
                if thing == (("a", "get", "/"),) and name == "routes":
                    told = "pages"
                if thing != KINDS:
                    self.told(small(**{name: thing}), told)

    def test_by_name(self):
        self.assertIsNone(wrong_in(thing=SMALL))
        self.assertIs(is_site(thing=SMALL), True)
        for action in (wrong_in, is_site):
            with self.assertRaises(TypeError):
                action()

    def test_the_first_of_several(self):
        for wrong in itertools.product((True, False), repeat=7):
            thing = {name: None if so else SMALL[name] for name, so in zip(NAMES, wrong)}
            self.told(thing, NAMES[wrong.index(True)] if True in wrong else None)
            # In whatever order they stand.
            self.told(dict(reversed(list(thing.items()))), NAMES[wrong.index(True)] if True in wrong else None)


class RoutesKindsRulesPeople(Told):
    def test_routes(self):
        routes = SMALL["routes"]
        self.each("routes", (), ((), list(routes), routes + routes[:1], routes[0], (("home", "put", "/"),), (("home", "get", "a"),)))

    def test_kinds(self):
        kinds = SMALL["kinds"]
        self.each("kinds", (kinds + (("other", (("x", "text"),)),),), ((), list(kinds), kinds + kinds[:1], kinds[0], (("item", ()),)))
        # Without the item, what names it is wrong first.
        self.told(small(kinds=kinds[1:]), "rules")
        self.told(small(kinds=kinds[1:], rules=()), "works")
        self.told(small(kinds=kinds[1:], rules=(), works=()), "pages")
        self.told(small(kinds=kinds[1:], rules=(), works=(), pages=(SMALL["pages"][0], ("one", "", ()))), "forms")

    def test_rules(self):
        right = ("own", "change", "note", "no")
        self.each("rules", ((), (right,), (right,) * 12, (("all", "see", "item", "other"),)), (
            (right,) * 13, [right], right, (("all", "see", "other", ""),), (right, ("all", "see", "items", "")), (("any", "see", "item", ""),),
            (("all", "look", "item", ""),), (("all", "see", "", ""),), (("all", "see", "item", None),), (("all", "see", "item"),), None))

    def test_people(self):
        six = tuple([(name, "w", ()) for name in "abcdef"])
        self.each("people", ((), six, (("ann", "-", ("a", "b")), ("bob", "-", ("a", "b")))), (
            six + (("g", "w", ()),), list(six), six[0], six[:2] + six[:1], (("ann", "w"),), (("ann", "w", ("b", "a")),), (("ann", "W", ()),),
            (("Ann", "w", ()),), (("ann", "w", []),), (["ann", "w", ()],), None))


class Works(Told):
    def test_works(self):
        step = ("many", 1)
        self.each("works", (
            (), (("step", "item", (step,)),), (("step", "item", (step,) * 5),), (("step", "item", (("many", 9999), ("many", -9999), ("many", 0))),),
            tuple([(name, "item", (step,)) for name in "abcd"]), (("item", "item", (step,)),),
        ), (
            tuple([(name, "item", (step,)) for name in "abcde"]), [("step", "item", (step,))], ("step", "item", (step,)), None, {}, "",
            (("step", "item", (step,)), ("step", "item", (step, step))), (("step", "item", ()),), (("step", "item", (step,) * 6),),
            (("step", "item", [step]),), (("step", "item", step),), (("step", "item", None),), (("step", "item"),), (("step", "item", (step,), ()),),
            (["step", "item", (step,)],), (None,), (("", "item", (step,)),), (("Step", "item", (step,)),), ((None, "item", (step,)),),
            ((["step"], "item", (step,)),), (("abcdefghi", "item", (step,)),), ((5, "item", (step,)),),
            (("step", "other", (step,)),), (("step", "", (step,)),), (("step", None, (step,)),), (("step", ["item"], (step,)),),
            (("step", KIND, (step,)),), (("step", "note", (step,)),), (("step", "note", (("text", 1),)),),
        ))

    def test_steps(self):
        right = ("many", 1)
        for wrong in (
            ("name", 1), ("no", 1), ("text", 1), ("", 1), (None, 1), (["many"], 1), (("many", "number"), 1), (5, 1), ("Many", 1),
            ("many", 10000), ("many", -10000), ("many", True), ("many", "1"), ("many", None), ("many", (1,)), ("many", [1]), ("many",),
            ("many", 1, 1), ["many", 1], (), None, "mn", 5, {}, (1, "many"), *objects(),
        ):
            for steps in ((wrong,), (right, wrong), (wrong, right)):
                self.told(small(works=(("step", "item", steps),)), "works")
        for thing in anything():
            self.told(small(works=(("step", "item", (("many", thing),)),)),
                      None if isinstance(thing, int) and thing in (0, 1, -1, 9999) and not isinstance(thing, bool) else "works")
            self.told(small(works=(("step", "item", ((thing, 1),)),)), "works")


class Pages(Told):
    def test_one_for_each_get_route_in_their_order(self):
        home, one = SMALL["pages"]
        self.each("pages", ((home, one),), (
            (), (home,), (one,), (one, home), (home, one, one), (home, home), [home, one], (home, one, ("do", "", ())), home, None, {},
            ((home, one),), (home, None), (home, ()), (home, list(one)), (home, one[:2]), (home, one + ((),)), (home, ("home",) + one[1:]),
            (home, ("two",) + one[1:]), (home, (None,) + one[1:]), (home, (["one"],) + one[1:]), (home, ("do",) + one[1:])))

    def test_routes_of_both_verbs_between_one_another(self):
        routes = (("do", "post", "/{word}/{no:n}/{other:n}"), ("one", "get", "/{word}/{no:n}"), ("again", "post", "/{no:n}"), ("home", "get", "/"))
        forms = SMALL["forms"] + (("again", (), ("remove", "item", "no"), "home"),)
        self.told(small(routes=routes, pages=SMALL["pages"][::-1], forms=forms), None)
        self.told(small(routes=routes, pages=SMALL["pages"], forms=forms), "pages")
        self.told(small(routes=routes, pages=SMALL["pages"][::-1], forms=forms[::-1]), "forms")

    def test_templates(self):
        for template in ("", "a", "{{x}}", "{{each x}}{{end}}", '<a to="{{x}}"/>'):
            self.told(with_page(("one", template, ())), None)
        for template in ("<a>", "{{each x}}", "{x}", "{{end}}", "&", None, 5, (), ["a"], ("a",), b"a"):
            self.told(with_page(("one", template, ())), "pages")

    def test_asks(self):
        right = ("x", "item", "no")
        for asks in (
            (), (right,), (("x", "item", "all"), ("y", "item", "all"), ("z", "item", "no")), (("asker", "note", "all"),), (("no", "item", "no"),),
            (("word", "item", "no"),), (("item", "item", "all"),), (("abcdefgh", "note", "no"),),
        ):
            self.told(with_page(("one", "", asks)), None)
        for asks in (
            (right,) * 2, (("x", "item", "all"), ("y", "item", "all"), ("z", "item", "no"), ("w", "item", "no")), [right], right, None, {}, "x",
            (("x", "item", "all"), ("y", "item", "all"), ("x", "item", "no")),
        ):
            self.told(with_page(("one", "", asks)), "pages")
        for wrong in (
            ("", "item", "no"), ("X", "item", "no"), ("abcdefghi", "item", "no"), (None, "item", "no"), (["x"], "item", "no"), (5, "item", "no"),
            ("x", "other", "no"), ("x", "", "no"), ("x", None, "no"), ("x", ["item"], "no"), ("x", KIND, "no"), ("x", "item", "word"),
            ("x", "item", "other"), ("x", "item", ""), ("x", "item", None), ("x", "item", 1), ("x", "item", ["no"]), ("x", "item", ("all",)),
            ("x", "item", "All"), ("x", "item", "no:n"), ("x", "item"), ("x", "item", "no", ""), ["x", "item", "no"], (), None, "xin", 5,
        ):
            for asks in ((wrong,), (("y", "note", "all"), wrong), (wrong, ("y", "note", "all"))):
                self.told(with_page(("one", "", asks)), "pages")
        for thing in anything():
            for at in range(1, 3):
                self.told(with_page(("one", "", (right[:at] + (thing,) + right[at + 1:],))), "pages")

    def test_a_hole_of_another_route(self):
        self.told(small(pages=(("home", "", (("x", "item", "no"),)), SMALL["pages"][1])), "pages")
        self.told(small(pages=(("home", "", (("x", "item", "all"),)), SMALL["pages"][1])), None)

    def test_holes_called_all(self):
        for hole in ("{all:n}", "{all}"):
            routes = (("a", "get", "/" + hole),)
            self.told(small(routes=routes, pages=(("a", "", (("x", "item", "all"),)),), forms=()), None)


class Forms(Told):
    def test_one_for_each_post_route_in_their_order(self):
        form = SMALL["forms"][0]
        self.each("forms", ((form,),), (
            (), (form, form), [form], form, None, {}, (form, ("home",) + form[1:]), (None,), ((),), (list(form),), (form[:3],), (form + ("",),),
            (("home",) + form[1:],), (("one",) + form[1:],), ((None,) + form[1:],), ((["do"],) + form[1:],), ("do",)))
        routes = SMALL["routes"] + (("redo", "post", "/{no:n}"),)
        other = ("redo", (), ("remove", "note", "no"), "home")
        for forms, name in (((form, other), None), ((other, form), "forms"), ((form,), "forms"), ((form, form), "forms")):
            self.told(small(routes=routes, forms=forms), name)

    def test_fields(self):
        for least, most in ((0, 0), (0, 9999), (5, 5), (9999, 9999), (40, 41)):
            for name in ("x", "no", "name", "abcdefgh"):
                self.told(with_deed(((name, "text", least, most),), ("change", "item", "no", "name")), None)
                self.told(with_deed(((name, "number", least, most),), ("change", "item", "no", "many")), None)
        for wrong in (
            ("", "text", 0, 9), ("X", "text", 0, 9), ("abcdefghi", "text", 0, 9), (None, "text", 0, 9), (["x"], "text", 0, 9), (5, "text", 0, 9),
            ("x", "", 0, 9), ("x", "Text", 0, 9), ("x", None, 0, 9), ("x", ["text"], 0, 9), ("x", 5, 0, 9), ("x", "name", 0, 9),
            ("x", "text", 9, 8), ("x", "text", -1, 9), ("x", "text", 0, 10000), ("x", "text", 10000, 10000), ("x", "text", -1, -1),
            ("x", "text", True, 9), ("x", "text", 0, True), ("x", "text", False, 9), ("x", "text", "0", 9), ("x", "text", 0, "9"),
            ("x", "text", None, 9), ("x", "text", 0, None), ("x", "text", [0], 9), ("x", "text", 0, (9,)), ("x", "text", 0),
            ("x", "text", 0, 9, 9), ["x", "text", 0, 9], (), None, "xt09", 5, {},
        ):
            self.told(with_deed((wrong,), ("change", "item", "no", "name")), "forms")
        for thing in anything():
            for at in range(1, 4):
                field = ("x", "text", 0, 5)
                right = at > 1 and isinstance(thing, int) and not isinstance(thing, bool) and thing in ((0, 1), (0, 1, 9999))[at - 2]
                self.told(with_deed((field[:at] + (thing,) + field[at + 1:],), ("change", "item", "no", "name")), None if right else "forms")
        for fields in ([("x", "text", 0, 9)], ("x", "text", 0, 9), None, "", {}, [], 0):
            self.told(with_deed(fields, ("change", "item", "no", "name")), "forms")
        for fields in ([], None, "", {}, 0, ((),), [()]):
            self.told(with_deed(fields, ("remove", "item", "no")), "forms")

    def test_add(self):
        name, many, text = ("name", "text", 1, 5), ("many", "number", 0, 9), ("text", "text", 0, 5)
        self.told(with_deed((name, many), ("add", "item")), None)
        self.told(with_deed((text,), ("add", "note")), None)
        for fields, deed in (
            ((many, name), ("add", "item")), ((name,), ("add", "item")), ((name, many, text), ("add", "item")), ((), ("add", "item")),
            ((name, many), ("add", "note")), ((text,), ("add", "item")), ((name, ("many", "text", 0, 9)), ("add", "item")),
            ((name, ("more", "number", 0, 9)), ("add", "item")), ((name, name), ("add", "item")), ((name, many), ("add", "other")),
            ((name, many), ("add", None)), ((name, many), ("add", ["item"])), ((name, many), ("add", "")), ((name, many), ("add",)),
            ((name, many), ("add", "item", "no")), ((name, many), ["add", "item"]), ((name, many), ("Add", "item")), ((name, many), "add"),
            ((name, many), ("add", KIND)),
        ):
            self.told(with_deed(fields, deed), "forms")

    def test_five_fields(self):
        for many in range(1, 6):
            kind = ("big", tuple([(name, "text") for name in "abcde"[:many]]))
            fields = tuple([(name, "text", 0, 9) for name in "abcde"[:many]])
            self.told(small(kinds=SMALL["kinds"] + (kind,), forms=(("do", fields, ("add", "big"), "home"),)), None)
            self.told(small(kinds=SMALL["kinds"] + (kind,), forms=(("do", fields + (("f", "text", 0, 9),), ("add", "big"), "home"),)), "forms")

    def test_change(self):
        text, number = ("x", "text", 0, 5), ("x", "number", 0, 9)
        for fields, deed in (
            ((text,), ("change", "item", "no", "name")), ((number,), ("change", "item", "no", "many")),
            ((text,), ("change", "note", "other", "text")), ((("name", "number", 0, 0),), ("change", "item", "other", "many")),
        ):
            self.told(with_deed(fields, deed), None)
        for fields, deed in (
            ((number,), ("change", "item", "no", "name")), ((text,), ("change", "item", "no", "many")), ((), ("change", "item", "no", "name")),
            ((text, ("y", "text", 0, 5)), ("change", "item", "no", "name")), ((text,), ("change", "other", "no", "name")),
            ((text,), ("change", "note", "no", "name")), ((text,), ("change", None, "no", "name")), ((text,), ("change", ["item"], "no", "name")),
            ((text,), ("change", "item", "word", "name")), ((text,), ("change", "item", "else", "name")), ((text,), ("change", "item", "", "name")),
            ((text,), ("change", "item", None, "name")), ((text,), ("change", "item", 1, "name")), ((text,), ("change", "item", ["no"], "name")),
            ((text,), ("change", "item", "all", "name")), ((text,), ("change", "item", "no", "text")), ((text,), ("change", "item", "no", "no")),
            ((text,), ("change", "item", "no", "")), ((text,), ("change", "item", "no", None)), ((text,), ("change", "item", "no", ["name"])),
            ((text,), ("change", "item", "no")), ((text,), ("change", "item", "no", "name", "")), ((text,), ["change", "item", "no", "name"]),
            ((text,), ("change",)), ((text,), ("more", "item", "no", "name")), ((number,), ("more", "item", "no", "many")),
        ):
            self.told(with_deed(fields, deed), "forms")

    def test_remove_and_work(self):
        for deed in (("remove", "item", "no"), ("remove", "note", "other"), ("work", "step", "no"), ("work", "step", "other")):
            self.told(with_deed((), deed), None)
            self.told(with_deed((("x", "text", 0, 5),), deed), "forms")
        for deed in (
            ("remove", "other", "no"), ("remove", "step", "no"), ("remove", None, "no"), ("remove", ["item"], "no"), ("remove", "item", "word"),
            ("remove", "item", "else"), ("remove", "item", None), ("remove", "item", 1), ("remove", "item", ["no"]), ("remove", "item"),
            ("remove", "item", "no", ""), ("remove",), ["remove", "item", "no"], ("work", "item", "no"), ("work", "other", "no"),
            ("work", None, "no"), ("work", ["step"], "no"), ("work", "step", "word"), ("work", "step", "all"), ("work", "step", ("no",)),
            ("work", "step"), ("work", "step", "no", ""), ("work",), ["work", "step", "no"], (), None, "work", 5, {}, ("", "item", "no"),
            (None, "item", "no"), (["remove"], "item", "no"), ("see", "item", "no"), ("item", "remove", "no"), (True, "item", "no"),
            ("see", "step", "no"), ("", "step", "no"), (None, "step", "no"), (["work"], "step", "no"), ("works", "step", "no"),
        ):
            self.told(with_deed((), deed), "forms")
        self.told({**with_deed((), ("work", "step", "no")), "works": ()}, "forms")
        for thing in anything():
            for deed in (thing, (thing, "item", "no"), ("remove", thing, "no"), ("remove", "item", thing), ("work", thing, "no"),
                         ("work", "step", thing)):
                self.told(with_deed((), deed), "forms")

    def test_next(self):
        routes = (
            ("home", "get", "/"), ("none", "get", "/a"), ("some", "get", "/b/{no:n}"), ("turned", "get", "/{other:n}/{no:n}"),
            ("words", "get", "/w/{word}"), ("text", "get", "/t/{no}"), ("number", "get", "/n/{word:n}"), ("more", "get", "/{no:n}/{x}"),
            ("do", "post", "/{word}/{no:n}/{other:n}"), ("redo", "post", "/"),
        )
        pages = tuple([(name, "", ()) for name, verb, pattern in routes if verb == "get"])
        redo = ("redo", (("text", "text", 0, 5),), ("add", "note"), "home")
        for following in ("home", "none", "some", "turned", "words"):
            self.told(small(routes=routes, pages=pages, forms=(("do", (), ("remove", "item", "no"), following), redo)), None)
        for following in ("text", "number", "more", "do", "redo", "else", "", None, 0, ["home"], ("home",), routes[0], *anything(), *objects()):
            self.told(small(routes=routes, pages=pages, forms=(("do", (), ("remove", "item", "no"), following), redo)), "forms")


if __name__ == "__main__":
    unittest.main()
