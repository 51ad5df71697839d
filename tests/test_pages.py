"""5.3 and 5.4: the pages of a plain house, and the rules by which they show what they show."""

import itertools
import random
import unittest

from doorhouse.errors import NoAsker, NoPath, NoSite, NoThings
from doorhouse.marks import read_marks
from doorhouse.pages import page_of, reasons_of
from doorhouse.rights import are_twins
from doorhouse.templates import filled
from tests.helper import SITE, THINGS, anything, refuses, tells
from tests.test_rights import NEAR_THINGS, WRONG_ASKERS

ANN, BOB, CAT = ("ann", ()), ("bob", ("clerk",)), ("cat", ("boss", "clerk"))
UGLY = "a &quot;b&quot; &lt;c&gt; &amp; d"


def site_of(pattern, template, asks, rules=None):
    """Tell a site with this page alone."""
    site = dict(SITE, routes=(("page", "get", pattern),), pages=(("page", template, asks),), forms=())
    return site if rules is None else dict(site, rules=rules)


class Pages(unittest.TestCase):
    def page(self, asker, path, told, site=SITE, things=THINGS):
        self.assertEqual(tells(self, page_of, site, asker, things, path), told, (asker, path))
        reasons = tells(self, reasons_of, site, asker, things, path)
        self.assertIs(reasons is None, told is None, (asker, path))
        return reasons

    def test_of_all(self):
        notes = "<q>hi</q><q/>"
        for asker, told in (
            (None, f'<p/><i to="/item/1">pen  </i><i to="/item/2">{UGLY}  </i><i to="/item/7">  </i>'),
            (ANN, f'<p>ann</p><i to="/item/1">pen 5 0</i><i to="/item/2">{UGLY} 0 </i><i to="/item/7"> 1 </i>'),
            (BOB, f'<p>bob</p><i to="/item/1">pen 5 0</i><i to="/item/2">{UGLY} 0 9999</i><i to="/item/7"> 1 2</i>'),
        ):
            self.page(asker, "/", told + notes)
        self.page(None, "/", "<p/>", things=())
        self.page(ANN, "/", "<p>ann</p><q>x</q>", things=(("note", 4, "", ("x",)),))

    def test_of_one(self):
        self.page(None, "/item/1", '<i is="pen">/</i><n>1</n>')
        self.page(ANN, "/item/1", '<i is="pen">5/0</i><n>1</n>')
        self.page(ANN, "/item/2", f'<i is="{UGLY}">0/</i><n>2</n>')
        self.page(CAT, "/item/7", '<i is="">1/2</i><n>7</n>')

    def test_of_two(self):
        self.page(None, "/pair/1/word/2", "<a>pen</a><b/><c>word</c>")
        self.page(ANN, "/pair/7/-/1", "<a/><b>hi</b><c>-</c>")

    def test_none_where_no_route_is_found(self):
        for path in ("/item", "/items", "/item/x", "/item/01", "/item/1/name", "/note", "/1/a/2", "/pair/1/2", "/item/10000"):
            self.page(ANN, path, None)

    def test_none_where_the_one_is_not_seen(self):
        for path in ("/item/0", "/item/3", "/item/9999", "/pair/1/a/3", "/pair/3/a/1", "/pair/2/a/0"):
            self.page(CAT, path, None)
        # There, but without a field that the asker sees.
        site = site_of("/{no:n}", "{{each x}}<a>{{sold}}</a>{{end}}", (("x", "item", "no"),), (("own", "see", "item", "sold"),))
        for asker, told in ((None, None), (CAT, None), (ANN, "<a>0</a>"), (("ann", ("x",)), "<a>0</a>")):
            self.page(asker, "/1", told, site)
        self.page(BOB, "/2", "<a>9999</a>", site)
        self.page(ANN, "/2", None, site)

    def test_all_may_be_none(self):
        site = site_of("/", "<a>{{each x}}{{no}}{{end}}</a>{{when x}}<b/>{{end}}", (("x", "item", "all"),), (("own", "see", "item", "name"),))
        self.page(None, "/", "<a/>", site)
        self.page(ANN, "/", "<a>1</a><b/>", site)

    def test_a_hole_called_all(self):
        site = site_of("/{all:n}", "{{each x}}<a>{{no}}</a>{{end}}{{all}}", (("x", "item", "all"),))
        self.page(None, "/7", "<a>1</a><a>2</a><a>7</a>7", site)
        self.page(None, "/3", "<a>1</a><a>2</a><a>7</a>3", site)

    def test_what_stands_later_goes_ahead(self):
        for pattern, template, asks, path, told in (
            ("/{asker}", "{{asker}}", (), "/word", "ann"),
            ("/{asker:n}", "{{asker}}", (), "/5", "ann"),
            ("/{x}", "{{x}}", (), "/word", "word"),
            ("/{x}", "{{x}}{{each x}}<a>{{x}}{{name}}</a>{{end}}", (("x", "item", "all"),), "/word", "<a>pen</a><a>" + UGLY + "</a><a/>"),
            ("/{x:n}", "{{x}}{{each x}}<a>{{no}}</a>{{end}}", (("x", "item", "x"),), "/7", "<a>7</a>"),
            ("/", "{{asker}}{{each asker}}<a>{{text}}</a>{{end}}", (("asker", "note", "all"),), "/", "<a>hi</a><a/>"),
            ("/{asker:n}", "{{asker}}{{each y}}{{no}}{{end}}", (("y", "item", "asker"),), "/2", "ann2"),
            ("/{no:n}", "{{no}}{{each y}} {{no}}{{end}}", (("y", "item", "all"),), "/9", "9 1 2 7"),
        ):
            self.page(ANN, path, told, site_of(pattern, template, asks))

    def test_a_thing_lacks_what_is_not_seen(self):
        # So what stands around it is shown, here the route's own.
        site = site_of("/{sold}/{many:n}", "{{each x}}<a>{{sold}} {{many}}</a>{{end}}", (("x", "item", "many"),))
        self.page(None, "/s/1", "<a>s 1</a>", site)
        self.page(("eve", ()), "/s/1", "<a>s 5</a>", site)
        self.page(CAT, "/s/1", "<a>0 5</a>", site)

    def test_one_thing_asked_for_twice(self):
        site = site_of("/{no:n}/{other:n}", "{{each x}}{{name}}{{end}}-{{each y}}{{name}}{{end}}-{{each z}}{{no}}{{end}}",
                       (("x", "item", "no"), ("y", "item", "other"), ("z", "item", "all")))
        reasons = self.page(None, "/1/1", "pen-pen-127", site)
        self.assertEqual(reasons, (("item", 1, "name", 0), ("item", 2, "name", 0), ("item", 7, "name", 0)))

    def test_the_most_particular_route(self):
        site = dict(SITE, routes=(("a", "get", "/{x}"), ("b", "get", "/{x:n}"), ("c", "get", "/x"), ("d", "post", "/x")), forms=(
            ("d", (("text", "text", 0, 9),), ("add", "note"), "c"),), pages=(("a", "a{{x}}", ()), ("b", "b{{x}}", ()), ("c", "c{{x}}", ())))
        for path, told in (("/y", "ay"), ("/0", "b0"), ("/x", "c"), ("/00", "a00")):
            self.page(None, path, told, site)

    def test_things_with_great_numbers(self):
        site = site_of("/", '{{each x}}<a to="{{no}}">{{no}}</a>{{end}}', (("x", "note", "all"),))
        things = (("note", 9999, "", ("a",)), ("note", 10000, "", ("b",)), ("note", 10 ** 39, "", ("c",)))
        self.page(None, "/", "".join([f'<a to="{no}">{no}</a>' for no in (9999, 10000, 10 ** 39)]), site, things)

    def test_pages_read_as_their_template(self):
        self.assertEqual(read_marks(page_of(SITE, None, THINGS, "/item/2"))[0], ("i", (("is", THINGS[1][3][0]),), ("/",)))

    def test_kinds(self):
        self.assertIs(type(page_of(SITE, None, THINGS, "/")), str)
        self.assertIs(type(reasons_of(SITE, None, THINGS, "/")), tuple)

    def test_by_name(self):
        self.assertEqual(page_of(path="/", things=(), asker=None, site=SITE), "<p/>")
        self.assertEqual(reasons_of(path="/", things=(), asker=None, site=SITE), ())
        for action in (page_of, reasons_of):
            with self.assertRaises(TypeError):
                action(SITE, None, ())


class Reasons(unittest.TestCase):
    def test_of_all(self):
        for asker, items in (
            (None, [(1, "name", 0), (2, "name", 0), (7, "name", 0)]),
            (ANN, [(1, "many", 1), (1, "name", 0), (1, "sold", 3), (2, "many", 1), (2, "name", 0), (7, "many", 1), (7, "name", 0)]),
            (BOB, [(no, field, place) for no in (1, 2, 7) for field, place in (("many", 1), ("name", 0), ("sold", 2))]),
        ):
            told = tuple([("item", *row) for row in items]) + (("note", 1, "text", 4), ("note", 2, "text", 4))
            self.assertEqual(tells(self, reasons_of, SITE, asker, THINGS, "/"), told, asker)

    def test_of_one(self):
        for asker, path, told in (
            (None, "/item/1", (("item", 1, "name", 0),)),
            (ANN, "/item/1", (("item", 1, "many", 1), ("item", 1, "name", 0), ("item", 1, "sold", 3))),
            (ANN, "/item/2", (("item", 2, "many", 1), ("item", 2, "name", 0))),
            (None, "/pair/1/a/2", (("item", 1, "name", 0), ("note", 2, "text", 4))),
            (None, "/pair/1/a/3", None), (None, "/item/3", None), (None, "/other", None),
        ):
            self.assertEqual(tells(self, reasons_of, SITE, asker, THINGS, path), told, (asker, path))

    def test_rising(self):
        kinds = (("b", (("z", "text"), ("a", "text"))), ("a", (("m", "text"),)))
        site = dict(site_of("/", "", (("x", "b", "all"), ("y", "a", "all"), ("z", "b", "all"))), kinds=kinds, works=(), rules=(
            ("all", "see", "b", "z"), ("all", "see", "b", ""), ("all", "see", "a", "m")))
        things = (("a", 5, "", ("",)), ("b", 2, "", ("", "")), ("b", 11, "", ("", "")))
        told = (("a", 5, "m", 2), ("b", 2, "a", 1), ("b", 2, "z", 0), ("b", 11, "a", 1), ("b", 11, "z", 0))
        self.assertEqual(tells(self, reasons_of, site, None, things, "/"), told)

    def test_of_asks_alone_whatever_the_template_shows(self):
        self.assertEqual(reasons_of(site_of("/", "", (("x", "note", "all"),)), None, THINGS, "/"), (("note", 1, "text", 4), ("note", 2, "text", 4)))
        self.assertEqual(reasons_of(site_of("/", "{{each note}}{{text}}{{end}}", ()), None, THINGS, "/"), ())


class Refusals(unittest.TestCase):
    def refuse(self, error, *places):
        refuses(self, error, page_of, *places)
        refuses(self, error, reasons_of, *places)

    def test_sites(self):
        for name in SITE:
            self.refuse(NoSite, {key: SITE[key] for key in SITE if key != name}, None, (), "/")
            self.refuse(NoSite, dict(SITE, **{name: None}), None, (), "/")
            self.refuse(NoSite, dict(SITE, **{name: list(SITE[name])}), None, (), "/")
        self.refuse(NoSite, dict(SITE, other=()), None, (), "/")
        self.refuse(NoSite, dict(SITE, pages=SITE["pages"][::-1]), None, (), "/")

    def test_askers(self):
        for wrong in WRONG_ASKERS:
            self.refuse(NoAsker, SITE, wrong, (), "/")

    def test_things(self):
        # The one with a third value is right of the site's own items.
        wrongs = [(thing,) for thing in NEAR_THINGS if thing != ("item", 1, "", ("a", 1, 1))] + [THINGS[::-1], list(THINGS), THINGS[:1] * 2, THINGS[0], None, [], "", {}]
        for wrong in wrongs + [(("item", 1, "", ("a", 1)),), (("other", 1, "", ("a",)),)]:
            self.refuse(NoThings, SITE, None, wrong, "/")

    def test_paths(self):
        for wrong in ("", "a", "//", "/A", "/a/", "/123456789", "/a/b/c/d/e/f", None, 5, ("/",), ["/"], b"/", {}):
            self.refuse(NoPath, SITE, None, (), wrong)

    def test_of_anything(self):
        for thing in anything():
            self.refuse(NoSite, thing, thing, thing, thing)
            if thing is not None:
                self.refuse(NoAsker, SITE, thing, thing, thing)
            if not (isinstance(thing, tuple) and thing == ()):
                self.refuse(NoThings, SITE, None, thing, thing)
            if not (isinstance(thing, str) and thing in ("/", "/a")):
                self.refuse(NoPath, SITE, None, (), thing)

    def test_the_first_that_is_due(self):
        right = (SITE, ANN, THINGS, "/")
        wrong = (dict(SITE, rules=None), "ann", THINGS[::-1], "//")
        due = (NoSite, NoAsker, NoThings, NoPath)
        for so in itertools.product((True, False), repeat=4):
            if False in so:
                self.refuse(due[so.index(False)], *[one if good else other for good, one, other in zip(so, right, wrong)])


class Chance(unittest.TestCase):
    """Held against what the document says, said once more."""

    def setUp(self):
        self.chance = random.Random(5)

    def some_things(self):
        pick = self.chance.choice
        rows = [("item", no, pick(("", "ann", "bob")), (pick(("", "<&>", "pen")), pick((0, 1)), pick((0, 1)))) for no in (1, 2, 3)]
        rows += [("note", no, pick(("", "ann")), (pick(("", '"')),)) for no in (1, 2)]
        return tuple([row for row in rows if self.chance.random() < 0.6])

    def some_rules(self):
        pick = self.chance.choice
        rows = [(pick(("all", "known", "own", ("role", "clerk"))), "see", *pick((("item", ""), ("item", "many"), ("note", "text"), ("item", "name"))))
                for _ in range(5)]
        return tuple(rows[:self.chance.randrange(6)])

    def told(self, site, asker, things, path):
        """Tell the page and its reasons by what the document says, or None twice."""
        rows = {}
        for kind, number, owner, values in things:
            for (field, _), value in zip(dict(site["kinds"])[kind], values):
                groups = ["all"] if asker is None else ["all", "known", *[("role", role) for role in asker[1]]] + ["own"] * (asker[0] == owner)
                places = [at for at, rule in enumerate(site["rules"]) if rule[0] in groups and rule[1:3] == ("see", kind) and rule[3] in ("", field)]
                if places:
                    rows.setdefault((kind, number), []).append((field, value, places[0]))
        words = path.split("/")[1:]
        if path == "/":
            name, data, asks = "home", {}, (("item", "item", None), ("note", "note", None))
        elif words[0] == "item" and len(words) == 2:
            name, data, asks = "item", {"no": int(words[1])}, (("it", "item", int(words[1])),)
        elif words[0] == "pair":
            name, data = "pair", {"no": int(words[1]), "word": words[2], "other": int(words[3])}
            asks = (("one", "item", int(words[1])), ("two", "note", int(words[3])))
        else:
            return None, None
        data["asker"] = asker[0] if asker else ""
        reasons = set()
        for ask, kind, number in asks:
            if number is not None and (kind, number) not in rows:
                return None, None
            keys = sorted([key for key in rows if key[0] == kind and number in (None, key[1])])
            data[ask] = tuple([{"no": key[1], **{field: value for field, value, _ in rows[key]}} for key in keys])
            reasons |= {key + (field, place) for key in keys for field, _, place in rows[key]}
        return filled({page[0]: page[1] for page in site["pages"]}[name], data), tuple(sorted(reasons))

    def test_pages_and_reasons(self):
        nothing = 0
        for _ in range(400):
            site = dict(SITE, rules=self.some_rules())
            asker, things = self.chance.choice((None, ANN, BOB, CAT)), self.some_things()
            path = self.chance.choice(("/", "/item/1", "/item/2", "/pair/1/x/2", "/pair/2/9/1", "/item"))
            page, reasons = self.told(site, asker, things, path)
            self.assertEqual(page_of(site, asker, things, path), page)
            self.assertEqual(reasons_of(site, asker, things, path), reasons)
            nothing += page is None
        self.assertTrue(50 < nothing < 350, nothing)

    def test_twins_have_the_same_pages(self):
        twins = 0
        for _ in range(400):
            site, asker = dict(SITE, rules=self.some_rules()), self.chance.choice((None, ANN, BOB))
            things, others = self.some_things(), self.some_things()
            if are_twins(site["kinds"], site["rules"], asker, things, others):
                twins += things != others
                for path in ("/", "/item/1", "/pair/1/x/2"):
                    self.assertEqual(page_of(site, asker, things, path), page_of(site, asker, others, path))
        self.assertGreater(twins, 20)


if __name__ == "__main__":
    unittest.main()
