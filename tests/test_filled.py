"""2.4 and 2.5: filled_tree, filled, pasted and breaks."""

import random
import unittest

from doorhouse.errors import NoData, NoMarks, NoTemplate
from doorhouse.marks import read_marks, show_marks
from doorhouse.templates import breaks, filled, filled_tree, holes_of, is_template, pasted
from tests.helper import anything, objects, refuses, tells
from tests.test_templates import (NO_TEMPLATES, ROW, TEMPLATES, pasted_of, some_data, some_rows, template_of,
                                  tree_of)

FILLING = (filled_tree, filled, pasted)


class Filled(unittest.TestCase):
    def fill(self, template, data, tree):
        self.assertEqual(tells(self, filled_tree, template, data), tree, (template, data))
        self.assertEqual(tells(self, filled, template, data), show_marks(tree))
        self.assertEqual(read_marks(filled(template, data)), tree)

    def test_holes(self):
        for worth, text in ((5, "5"), (0, "0"), (9999, "9999"), ("x", "x"), (" a ", " a "), ("<b/>", "<b/>"), ("&lt;", "&lt;")):
            self.fill("{{x}}", {"x": worth}, (text,))
            self.fill("<a>{{x}}</a>", {"x": worth}, (("a", (), (text,)),))
            self.fill('<a b="{{x}}"/>', {"x": worth}, (("a", (("b", text),), ()),))
            self.fill("y{{x}}z", {"x": worth}, ("y" + text + "z",))
            self.fill('<a b="y{{x}}z"/>', {"x": worth}, (("a", (("b", "y" + text + "z"),), ()),))

    def test_holes_without_a_value(self):
        for data in ({}, {"y": 5}, {"x": ""}, {"x": ()}, {"x": ({"x": "z"},)}, {"x": ({}, {})}):
            self.fill("{{x}}", data, ())
            self.fill("a{{x}}b", data, ("ab",))
            self.fill("<a>{{x}}</a>", data, (("a", (), ()),))
            self.fill('<a b="{{x}}"/>', data, (("a", (("b", ""),), ()),))
            self.fill('<a to="{{x}}"/>', data, (("a", (("to", ""),), ()),))
            self.assertEqual(filled("<a>{{x}}</a>", data), "<a/>")

    def test_texts_beside_one_another(self):
        self.fill("a{{x}}{{y}}b{{x}}", {"x": 1, "y": "<"}, ("a1<b1",))
        self.fill("a{{each x}}b{{end}}c", {"x": ({}, {})}, ("abbc",))
        self.fill("{{each x}}<a/>{{y}}{{end}}{{z}}", {"x": ({"y": 1}, {}), "z": "w"},
                  (("a", (), ()), "1", ("a", (), ()), "w"))

    def test_each_sign_that_values_have(self):
        for sign in ROW:
            self.fill("{{x}}", {"x": sign}, (sign,))
            self.fill('<a b="{{x}}"/>', {"x": sign}, (("a", (("b", sign),), ()),))
        self.fill("{{x}}", {"x": ROW[:40]}, (ROW[:40],))

    def test_the_example_of_signs(self):
        self.assertEqual(filled("<p>{{x}}</p>", {"x": '<b a="1">&'}), "<p>&lt;b a=&quot;1&quot;&gt;&amp;</p>")
        self.assertEqual(filled('<p q="{{x}}"/>', {"x": '"/>'}), '<p q="&quot;/&gt;"/>')
        self.assertEqual(filled("{{x}}", {"x": "{{y}}", "y": "no"}), "{{y}}")

    def test_the_templates_own_signs(self):
        self.assertEqual(filled("<a></a>&quot;&gt;", {}), "<a/>&quot;&gt;")
        for template, holes in TEMPLATES:
            if holes == ():
                self.fill(template, {"x": 5}, read_marks(template))


class Links(unittest.TestCase):
    def link(self, worth):
        return filled_tree('<a to="{{x}}"/>', {"x": worth})[0][1][0][1]

    def test_each_sign(self):
        for at, sign in enumerate(ROW):
            plain = sign in "abcdefghijklmnopqrstuvwxyz0123456789-"
            self.assertEqual(self.link(sign), sign if plain else f"~{at:02d}", sign)

    def test_some(self):
        for worth, link in (
            (" ", "~00"), ("!", "~01"), ('"', "~02"), ("$", "~04"), ("&", "~05"), ("/", "~14"), (":", "~25"), ("<", "~27"),
            ("A", "~32"), ("Z", "~57"), ("`", "~63"), ("{", "~90"), ("~", "~93"), ("a-z09", "a-z09"), ("~00", "~9300"),
            (0, "0"), (12, "12"), (9999, "9999"), ("", ""), ("a b", "a~00b"), ("Aa", "~32a"), ("//", "~14~14"),
        ):
            self.assertEqual(self.link(worth), link)

    def test_the_templates_own_signs_stay(self):
        template = '<a to="/A &amp;{{x}}~{{y}}" b="{{x}}">{{x}}</a>'
        tree = (("a", (("to", "/A &~14~25~"), ("b", "/:")), ("/:",)),)
        self.assertEqual(filled_tree(template, {"x": "/:"}), tree)
        self.assertEqual(filled(template, {"x": "/:"}), '<a to="/A &amp;~14~25~" b="/:">/:</a>')

    def test_unlike_values_have_unlike_links(self):
        links = [self.link(one + other) for one in ROW for other in ROW]
        self.assertEqual(len(set(links)), len(links))


class Blocks(unittest.TestCase):
    def texts(self, template, data):
        return "".join(tells(self, filled_tree, template, data))

    def test_each(self):
        template = "{{each x}}({{y}}){{end}}"
        for data, text in (
            ({"x": ({"y": 1}, {"y": "b"}, {"y": 3})}, "(1)(b)(3)"),
            ({"x": ({}, {"y": 2})}, "()(2)"),
            ({"x": ({}, {"y": 2}), "y": "o"}, "(o)(2)"),
            ({"x": ({"y": ()},), "y": "o"}, "()"),
            ({"x": ({"y": ""},), "y": "o"}, "()"),
            ({"x": ()}, ""), ({}, ""), ({"x": 5}, ""), ({"x": ""}, ""), ({"x": "y"}, ""), ({"y": 5}, ""),
        ):
            self.assertEqual(self.texts(template, data), text)

    def test_each_within_each(self):
        template = "{{each x}}[{{each y}}{{z}}{{w}};{{end}}]{{end}}"
        for data, text in (
            ({"x": ({"y": ({"z": 1}, {"z": 2})}, {"y": ({"z": 3},), "w": "v"}), "w": "u"}, "[1u;2u;][3v;]"),
            ({"x": ({}, {"w": 1}), "y": ({"z": 1}, {})}, "[1;;][11;1;]"),
            ({"x": ({"y": 5}, {"y": ()}), "y": ({"z": 1},)}, "[][]"),
            ({"y": ({"z": 1},)}, ""),
        ):
            self.assertEqual(self.texts(template, data), text)

    def test_each_by_the_same_name(self):
        template = "{{each x}}({{x}}{{each x}}[{{x}}]{{end}}){{end}}"
        self.assertEqual(self.texts(template, {"x": ({"x": 5}, {"x": ({"x": 6},)}, {})}), "(5)([6])([5][][])")

    def test_behind_each_the_data_around_hold_again(self):
        self.assertEqual(self.texts("{{y}}{{each x}}{{y}}{{end}}{{y}}", {"x": ({"y": 2},), "y": 1}), "121")

    def test_when(self):
        template = "{{when x}}yes{{end}}"
        for data in ({"x": 1}, {"x": 9999}, {"x": "0"}, {"x": " "}, {"x": "x"}, {"x": ({},)}, {"x": ({"x": 0},)}):
            self.assertEqual(self.texts(template, data), "yes")
        for data in ({"x": 0}, {"x": ""}, {"x": ()}, {}, {"y": 1}):
            self.assertEqual(self.texts(template, data), "")

    def test_when_within_each(self):
        template = "{{each x}}{{when y}}({{y}}){{end}}{{end}}"
        self.assertEqual(self.texts(template, {"x": ({"y": 0}, {"y": 1}, {}), "y": 2}), "(1)(2)")
        self.assertEqual(self.texts("{{when x}}{{each x}}{{y}}{{end}}{{end}}", {"x": ({"y": 1}, {"y": 2})}), "12")

    def test_names_of_the_words(self):
        data = {"end": ({"each": 1, "a": 5},), "when": "w"}
        self.assertEqual(self.texts("{{each end}}{{when each}}{{a}}{{end}}{{when when}}b{{end}}{{end}}", data), "5b")

    def test_tags_within(self):
        template = '<ul>{{each x}}<li to="{{no}}">{{name}}</li>{{end}}</ul>{{when x}}<b/>{{end}}'
        data = {"x": ({"no": 1, "name": "a"}, {"no": 2, "name": "<"})}
        self.assertEqual(filled(template, data), '<ul><li to="1">a</li><li to="2">&lt;</li></ul><b/>')
        self.assertEqual(filled(template, {}), "<ul/>")


class Pasted(unittest.TestCase):
    def test_values_as_they_are(self):
        for template, data, text in (
            ("<p>{{x}}</p>", {"x": "<b/>"}, "<p><b/></p>"),
            ('<a b="{{x}}"/>', {"x": '" c="'}, '<a b="" c=""/>'),
            ('<a to="{{x}}"/>', {"x": "/A b"}, '<a to="/A b"/>'),
            ("{{x}}{{y}}{{z}}", {"x": 5, "y": "&"}, "5&"),
            ("<a></a>&lt;&quot;{{x}}", {}, "<a></a>&lt;&quot;"),
            ("{{x}}", {"x": "{{y}}", "y": 1}, "{{y}}"),
            ("{{x}}", {"x": ({"x": 1},)}, ""),
            ("({{each x}}<a>{{y}}</a>{{end}}{{when z}}{{z}}{{end}})", {"x": ({"y": ">"}, {}), "y": 0, "z": '"'},
             '(<a>></a><a>0</a>")'),
            ("{{each x}}a{{end}}{{when x}}b{{end}}", {"x": ()}, ""),
        ):
            self.assertEqual(tells(self, pasted, template, data), text)

    def test_what_needs_no_other_signs_is_read_to_the_same(self):
        for template, holes in TEMPLATES:
            for data in ({}, {"x": "a", "y": 5}, {"x": ({"y": "b"}, {}), "y": "c"}):
                self.assertEqual(read_marks(pasted(template, data)), filled_tree(template, data))


class Breaks(unittest.TestCase):
    def check(self, template):
        data = tells(self, breaks, template)
        if [kind for kind, name in holes_of(template) if kind in ("inner", "quoted", "link")] == []:
            self.assertIsNone(data, template)
            return False
        self.assertIs(type(data), dict)
        text = pasted(template, data)
        try:
            self.assertNotEqual(read_marks(text), filled_tree(template, data), template)
        except NoMarks:
            self.assertEqual(read_marks(filled(template, data)), filled_tree(template, data))
        return True

    def test_each_kind_of_hole(self):
        for template in ("{{x}}", "a{{x}}b", "<a>{{x}}</a>", '<a b="{{x}}"/>', '<a to="{{x}}"/>', '<a b="c{{x}}d">e</a>'):
            self.assertTrue(self.check(template))
            self.assertTrue(self.check("{{when x}}" + template + "{{end}}"))
            self.assertTrue(self.check("{{each x}}" + template + "{{end}}"))
            self.assertTrue(self.check("{{each x}}{{when x}}{{each x}}" + template + "{{end}}{{end}}{{end}}"))
            self.assertTrue(self.check("{{when x}}{{each y}}{{when y}}{{when x}}" + template + "{{end}}{{end}}{{end}}{{end}}"))

    def test_without_a_hole_for_a_value(self):
        for template in ("", "x", "<a/>", "{{each x}}{{end}}", "<a>{{when x}}b{{end}}</a>", "{{each x}}{{when y}}{{end}}{{end}}"):
            self.assertFalse(self.check(template))

    def test_the_templates_above(self):
        self.assertGreater(len([template for template, holes in TEMPLATES if self.check(template)]), 15)

    def test_blocks_within_one_another(self):
        for many in (8, 30, 100):
            self.assertTrue(self.check("{{each a}}" * many + "{{a}}" + "{{end}}" * many))
            self.assertTrue(self.check("{{each a}}{{when b}}" * many + "{{b}}" + "{{end}}{{end}}" * many))

    def test_made_by_chance(self):
        chance = random.Random(25)
        many = 0
        for _ in range(1500):
            many += self.check(template_of(some_rows(chance, 4)))
        self.assertGreater(many, 400)

    def test_what_is_told_is_the_askers_own(self):
        data = breaks("{{each x}}{{y}}{{end}}")
        before = repr(data)
        data["x"][0].clear()
        data["z"] = None
        self.assertEqual(repr(breaks("{{each x}}{{y}}{{end}}")), before)


NO_DATA = (
    None, 5, "", "x", True, (), [], [("x", 5)], (("x", 5),), ({"x": 5},), [{"x": 5}],
    {"": 5}, {"X": 5}, {"x1": 5}, {"abcdefghi": 5}, {5: 5}, {None: 5}, {True: 5}, {("x",): 5}, {"x": 5, "Y": 5},
    {"x": -1}, {"x": 10000}, {"x": True}, {"x": False}, {"x": None}, {"x": "%"}, {"x": "a\n"}, {"x": "\t"}, {"x": "a" * 41},
    {"x": []}, {"x": {}}, {"x": {"y": 5}}, {"x": [{"y": 5}]}, {"x": (5,)}, {"x": ("y",)}, {"x": ((),)}, {"x": (None,)},
    {"x": ({"y": 5}, None)}, {"x": ({"y": 5}, [])}, {"x": ({"y": 5}, {"Y": 5})}, {"x": ({"y": ({"z": True},)},)},
    {"x": ({"y": ({"z": 5},)}, {"y": ({"z": {}},)})}, {"y": 5, "x": ({}, ({},))}, {"x": b"y"},
)


class Refusals(unittest.TestCase):
    def test_what_is_no_template(self):
        for thing in NO_TEMPLATES:
            for action in FILLING:
                refuses(self, NoTemplate, action, thing, {})
                refuses(self, NoTemplate, action, thing, None)
            refuses(self, NoTemplate, breaks, thing)

    def test_what_is_no_data(self):
        for thing in NO_DATA:
            for action in FILLING:
                for template in ("", "y", "{{x}}", "{{each x}}{{y}}{{end}}"):
                    refuses(self, NoData, action, template, thing)

    def test_of_anything(self):
        for thing in anything() + objects():
            for action in FILLING:
                if not is_template(thing):
                    refuses(self, NoTemplate, action, thing, {})
                    refuses(self, NoTemplate, action, thing, thing)
                if type(thing) is not dict:
                    refuses(self, NoData, action, "{{x}}", thing)
                elif thing != {} and list(thing) != ["no", "asker"] and thing.get("a") not in (0, "", "a", "/a", "get", ({"b": 1},)):
                    refuses(self, NoData, action, "{{x}}", thing)
                else:
                    tells(self, action, "{{x}}", thing)
            if not is_template(thing):
                refuses(self, NoTemplate, breaks, thing)

    def test_anything_in_data(self):
        for thing in anything() + objects():
            short = isinstance(thing, str) and len(thing) <= 40 and thing.isprintable()
            right = short or type(thing) is int and 0 <= thing <= 9999 or thing in ((), ({},))
            for data in ({"x": thing}, {"y": ({"x": thing},)}):
                if right:
                    tells(self, filled, "{{x}}", data)
                else:
                    refuses(self, NoData, filled, "{{x}}", data)

    def test_the_first_of_several(self):
        for action in FILLING:
            refuses(self, NoTemplate, action, None, None)
            refuses(self, NoTemplate, action, data=[], template="{")
            refuses(self, NoData, action, data=[], template="{{x}}")


class HandedIn(unittest.TestCase):
    def test_by_name(self):
        self.assertEqual(filled_tree(data={"x": 5}, template="{{x}}"), ("5",))
        self.assertEqual(filled("{{x}}", data={"x": 5}), "5")
        self.assertEqual(pasted(data={"x": 5}, template="{{x}}"), "5")
        self.assertIsNone(breaks(template="x"))
        for call in FILLING:
            with self.assertRaises(TypeError):
                call("{{x}}")

    def test_kinds(self):
        self.assertEqual([type(action("{{x}}", {"x": 5})) for action in FILLING], [tuple, str, str])

    def test_data_that_were_told_are_taken_again(self):
        template = "{{each a}}" * 100 + "{{a}}" + "{{end}}" * 100
        self.assertEqual(pasted(template, breaks(template)), ">")
        self.assertEqual(filled(template, breaks(template)), "&gt;")


class ByChance(unittest.TestCase):
    def test_against_the_words_of_the_document(self):
        chance = random.Random(26)
        unlike = 0
        for _ in range(2500):
            rows = some_rows(chance, 4)
            data = some_data(chance, 3)
            template = template_of(rows)
            tree = tells(self, filled_tree, template, data)
            self.assertEqual(tree, tree_of(rows, [data]), (template, data))
            self.assertEqual(tells(self, filled, template, data), show_marks(tree))
            self.assertEqual(read_marks(filled(template, data)), tree)
            self.assertEqual(tells(self, pasted, template, data), pasted_of(rows, [data]), (template, data))
            unlike += pasted(template, data) != filled(template, data)
        self.assertGreater(unlike, 300)


if __name__ == "__main__":
    unittest.main()
