"""2.3: is_template and holes_of."""

import random
import unittest

from doorhouse.errors import NoTemplate
from doorhouse.templates import holes_of, is_template
from tests.helper import anything, objects, refuses, tells

# Each with its holes.
TEMPLATES = (
    ("", ()),
    ("x", ()),
    ("&lt;&amp;", ()),
    ('<a b="c">d</a>', ()),
    ("{{x}}", (("inner", "x"),)),
    ("{{abcdefgh}}", (("inner", "abcdefgh"),)),
    ("a {{x}} b", (("inner", "x"),)),
    ("{{x}}{{y}}{{x}}", (("inner", "x"), ("inner", "y"), ("inner", "x"))),
    ("<a>{{x}}</a>", (("inner", "x"),)),
    ("&lt;{{x}}&gt;", (("inner", "x"),)),
    ("&amp;{{x}};", (("inner", "x"),)),
    ('<a b="{{x}}"/>', (("quoted", "x"),)),
    ('<a b="c{{x}}&quot;{{y}}"/>', (("quoted", "x"), ("quoted", "y"))),
    ('<a to="{{x}}"/>', (("link", "x"),)),
    ('<to to="{{to}}">{{to}}</to>', (("link", "to"), ("inner", "to"))),
    ('<to b="{{x}}"/>', (("quoted", "x"),)),
    ('<a too="{{x}}" t="{{y}}" o="{{z}}"/>', (("quoted", "x"), ("quoted", "y"), ("quoted", "z"))),
    ('<a b=" to=" c="{{x}}"/>', (("quoted", "x"),)),
    ('<a b="=" to="/a/{{x}}/{{y}}" c="{{z}}">{{w}}</a>', (("link", "x"), ("link", "y"), ("quoted", "z"), ("inner", "w"))),
    ('<a to="{{x}} b=" c="{{y}}"/>{{z}}', (("link", "x"), ("quoted", "y"), ("inner", "z"))),
    ("{{each x}}{{end}}", (("each", "x"),)),
    ("{{when x}}{{end}}", (("when", "x"),)),
    ("a{{each x}}b{{y}}c{{end}}d", (("each", "x"), ("inner", "y"))),
    ("{{each x}}<a/>{{end}}", (("each", "x"),)),
    ("<a>{{each x}}<b>{{y}}</b>{{end}}</a>", (("each", "x"), ("inner", "y"))),
    ("{{each x}}<a>{{each x}}{{end}}</a>{{end}}", (("each", "x"), ("each", "x"))),
    ("{{each x}}{{when y}}{{end}}{{end}}{{when z}}{{end}}", (("each", "x"), ("when", "y"), ("when", "z"))),
    ("{{each each}}{{when when}}{{each end}}{{end}}{{end}}{{end}}", (("each", "each"), ("when", "when"), ("each", "end"))),
    ("{{when abcdefgh}}{{end}}", (("when", "abcdefgh"),)),
    ("{{inner}}{{quoted}}{{link}}", (("inner", "inner"), ("inner", "quoted"), ("inner", "link"))),
    ("{{ends}}{{eache}}{{whe}}", (("inner", "ends"), ("inner", "eache"), ("inner", "whe"))),
)
NO_TEMPLATES = (
    # No marked texts, with and without holes.
    "<", "<a>", "</a>", ">", "&", '"', "a\n", "{{x}}\n", "%", "<a>{{x}}", "{{x}}>", '{{x}}"', "{{x}}</a>",
    # Holes where no signs stand.
    "<{{x}}/>", "<a{{x}}/>", "<a {{x}}/>", '<a {{x}}="b"/>', "<a b={{x}}/>", '<a b{{x}}="c"/>', '<a b="c"{{x}}/>',
    "<a></{{x}}>", "<a></a{{x}}>", "<a/{{x}}>", "&{{x}};", "&l{{x}}t;", "&lt{{x}};", "&lt{{x}}", '<a b="&{{x}}"/>',
    "<a{{each x}}{{end}}/>", "<{{end}}",
    # Braces that stand otherwise.
    "{", "}", "{x}", "{{", "}}", "{{}}", "{{x", "x}}", "{{x}", "{x}}", "{{{x}}}", "{{{x}}", "{{x}}}", "{{x}}{", "}{{x}}",
    "{{{{x}}}}", "{ {x}}", "{{x} }", "{{x{{y}}", "{{x}}y}}", '<a b="{"/>', '<a b="}}"/>', '<a b="{{"/>', "{{x<a/>}}",
    '<a b="{{x"/>}}', "{<a/>{x}}", "{{x&amp;}}", "{{&lt;}}",
    # Names that are none, or that no hole has.
    "{{X}}", "{{x1}}", "{{x-y}}", "{{abcdefghi}}", "{{ x}}", "{{x }}", "{{x y}}", "{{each}}", "{{when}}", "{{5}}",
    '<a b="{{each}}"/>', '<a b="{{when}}"/>', "{{each }}{{end}}", "{{each  x}}{{end}}", "{{each x }}{{end}}",
    "{{ each x}}{{end}}", "{{each X}}{{end}}", "{{each abcdefghi}}{{end}}", "{{each x y}}{{end}}", "{{eachx}}{{end}}",
    "{{Each x}}{{end}}", "{{when 1}}{{end}}", "{{if x}}{{end}}", "{{each x}}{{ end}}", "{{each x}}{{end }}",
    "{{each x}}{{end x}}", "{{each x}}{{End}}", "{{end x}}", "{{each x}}{{ends}}", "{{whenx}}{{end}}",
    # Blocks without an end of their own, or without a beginning.
    "{{each x}}", "{{when x}}", "{{end}}", "{{each x}}{{end}}{{end}}", "{{end}}{{each x}}", "{{each x}}{{each y}}{{end}}",
    "{{each x}}{{when y}}{{end}}", "{{end}}{{each x}}{{end}}", "{{each x}}{{y}}", "<a>{{end}}</a>", "<a>{{each x}}</a>",
    # Blocks that end among other nodes.
    "{{each x}}<a>{{end}}</a>", "<a>{{each x}}</a>{{end}}", "<a>{{each x}}</a><a>{{end}}</a>", "<a>{{when x}}</a><b>{{end}}</b>",
    "{{each x}}<a>{{each y}}</a>{{end}}{{end}}", "{{each x}}<a>{{end}}{{each y}}</a>{{end}}", "<a>{{each x}}<b>{{end}}</b></a>",
    # Blocks in an attribute.
    '<a b="{{each x}}{{end}}"/>', '<a b="{{when x}}c{{end}}"/>', '<a to="{{each x}}{{end}}"/>', '<a b="{{end}}"/>',
    '{{each x}}<a b="{{end}}"/>', '<a b="{{each x}}"/>{{end}}', '{{each x}}<a b="{{end}}"/>{{end}}',
    '<a b="{{each x}}"/>', '{{each x}}<a b="{{each y}}{{end}}"/>{{end}}',
)


class Templates(unittest.TestCase):
    def test_templates(self):
        for thing, holes in TEMPLATES:
            self.assertIs(tells(self, is_template, thing), True, thing)
            self.assertEqual(tells(self, holes_of, thing), holes, thing)

    def test_no_templates(self):
        for thing in NO_TEMPLATES:
            self.assertIs(tells(self, is_template, thing), False, thing)
            refuses(self, NoTemplate, holes_of, thing)

    def test_those_beside_and_within_others(self):
        for thing, holes in TEMPLATES:
            ahead = (("each", "q"), ("quoted", "r"))
            whole = '{{each q}}<t s="{{r}}">' + thing + "</t>{{end}}" + thing
            self.assertIs(is_template(whole), True, thing)
            self.assertEqual(holes_of(whole), ahead + holes + holes)

    def test_what_is_none_within_others(self):
        for thing in NO_TEMPLATES:
            for whole in (f"<t>{thing}</t>", "{{each x}}{{y}}{{end}}" + thing, f"<t/>{thing}{{{{y}}}}"):
                self.assertIs(is_template(whole), False, whole)

    def test_of_anything(self):
        right = 0
        for thing in anything() + objects():
            self.assertIs(type(tells(self, is_template, thing)), bool)
            if is_template(thing):
                self.assertIs(type(thing), str)
                self.assertIs(type(holes_of(thing)), tuple)
                right += 1
            else:
                refuses(self, NoTemplate, holes_of, thing)
        self.assertGreater(right, 5)

    def test_of_many_signs_and_blocks(self):
        for many in (8, 30, 100):
            blocks = "{{each a}}" * many + "{{b}}" + "{{end}}" * many
            self.assertEqual(holes_of(blocks), (("each", "a"),) * many + (("inner", "b"),))
            self.assertIs(is_template(blocks[:-7]), False)
            self.assertIs(is_template(blocks + "{{end}}"), False)
            self.assertIs(is_template("<a>" * many + "{{b}}" + "</a>" * many), True)
        self.assertIs(is_template("x" * 2000), True)

    def test_kinds_and_by_name(self):
        self.assertIs(is_template(thing="{{x}}"), True)
        self.assertIs(is_template(thing=b"{{x}}"), False)
        told = holes_of(template="{{x}}")
        self.assertEqual([type(told), type(told[0])], [tuple, tuple])
        for call in (is_template, holes_of):
            with self.assertRaises(TypeError):
                call()


# Templates made by chance, and what comes of them by the words of the document, said a second time. A made template is
# a list of rows: ("text", shown, meant), ("hole", NAME), ("tag", NAME, attributes, rows, way), ("each", NAME, rows) and
# ("when", NAME, rows); attributes are tuples (name, rows), of texts and holes alone.
TEXTS = (("x", "x"), (" ", " "), ("&lt;", "<"), ("&amp;", "&"), ("a&quot;", 'a"'), ("=/;", "=/;"), ("&amp;lt;", "&lt;"))
NAMES = ("a", "b", "to", "end", "each", "abcdefgh")
HOLE_NAMES = ("a", "b", "to", "x", "abcdefgh")
VALUES = (0, 7, 9999, "", "x", "<", ">", "&", '"', "<a/>", "</a>", '" b="', "&lt;", "{{a}}", "{{end}}", " -az09~!$&'@Z^`|}")
# The signs that values may have, in their order.
ROW = "".join([chr(code) for code in range(32, 127) if chr(code) != "%"])


def some_row(chance, deep):
    way = chance.randrange(0, 10)
    if way < 3 or deep == 0 and way >= 5:
        return ("text", *chance.choice(TEXTS))
    if way < 5:
        return ("hole", chance.choice(HOLE_NAMES))
    if way < 7:
        return (chance.choice(("each", "when")), chance.choice(NAMES), some_rows(chance, deep - 1))
    attributes = []
    for name in chance.sample(NAMES, chance.randrange(0, 3)):
        rows = [row for row in some_rows(chance, 0) if row[0] in ("text", "hole")]
        attributes.append((name, rows))
    return ("tag", chance.choice(NAMES), attributes, some_rows(chance, deep - 1), chance.choice(("/>", "></")))


def some_rows(chance, deep):
    return [some_row(chance, deep) for _ in range(chance.randrange(0, 4))]


def template_of(rows):
    """Tell how rows are written as a template."""
    told = ""
    for row in rows:
        if row[0] == "text":
            told += row[1]
        elif row[0] == "hole":
            told += "{{" + row[1] + "}}"
        elif row[0] == "tag":
            told += f"<{row[1]}" + "".join([f' {name}="{template_of(worth)}"' for name, worth in row[2]])
            told += "/>" if not row[3] and row[4] == "/>" else f">{template_of(row[3])}</{row[1]}>"
        else:
            told += "{{" + row[0] + " " + row[1] + "}}" + template_of(row[2]) + "{{end}}"
    return told


def holes_in(rows, kind="inner"):
    told = []
    for row in rows:
        if row[0] == "hole":
            told.append((kind, row[1]))
        elif row[0] == "tag":
            for name, worth in row[2]:
                told += holes_in(worth, "link" if name == "to" else "quoted")
            told += holes_in(row[3])
        elif row[0] != "text":
            told.append((row[0], row[1]))
            told += holes_in(row[2])
    return told


def looked_up(name, around):
    """Tell what the innermost of the data around has by this name, None where none has it."""
    for data in around:
        if name in data:
            return data[name]
    return None


def rounds(row, around):
    worth = looked_up(row[1], around)
    if row[0] == "when":
        return [] if worth in (None, 0, "", ()) else [around]
    return [[data, *around] for data in worth] if type(worth) is tuple else []


def value_in(name, around):
    worth = looked_up(name, around)
    return "" if worth is None or type(worth) is tuple else str(worth)


def linked(text):
    kept = "abcdefghijklmnopqrstuvwxyz0123456789-"
    return "".join([sign if sign in kept else "~" + str(ROW.index(sign)).zfill(2) for sign in text])


def joined(nodes):
    """Tell nodes with texts beside one another as one, and empty ones as none."""
    told = []
    for node in nodes:
        if isinstance(node, str) and told and isinstance(told[-1], str):
            told[-1] += node
        elif node != "":
            told.append(node)
    return tuple(told)


def tree_of(rows, around):
    """Tell the nodes of rows that are filled."""
    told = []
    for row in rows:
        if row[0] == "text":
            told.append(row[2])
        elif row[0] == "hole":
            told.append(value_in(row[1], around))
        elif row[0] == "tag":
            attributes = []
            for name, worth in row[2]:
                texts = [part[2] if part[0] == "text" else value_in(part[1], around) if name != "to"
                         else linked(value_in(part[1], around)) for part in worth]
                attributes.append((name, "".join(texts)))
            told.append((row[1], tuple(attributes), tree_of(row[3], around)))
        else:
            for inner in rounds(row, around):
                told += tree_of(row[2], inner)
    return joined(told)


def pasted_of(rows, around):
    """Tell the signs of rows with the values as they are."""
    told = ""
    for row in rows:
        if row[0] == "text":
            told += row[1]
        elif row[0] == "hole":
            told += value_in(row[1], around)
        elif row[0] == "tag":
            told += f"<{row[1]}" + "".join([f' {name}="{pasted_of(worth, around)}"' for name, worth in row[2]])
            told += "/>" if not row[3] and row[4] == "/>" else f">{pasted_of(row[3], around)}</{row[1]}>"
        else:
            told += "".join([pasted_of(row[2], inner) for inner in rounds(row, around)])
    return told


def some_data(chance, deep):
    data = {}
    for name in chance.sample(NAMES + ("x",), chance.randrange(0, 7)):
        if deep > 0 and chance.random() < 0.5:
            data[name] = tuple([some_data(chance, deep - 1) for _ in range(chance.randrange(0, 3))])
        else:
            data[name] = chance.choice(VALUES)
    return data


class ByChance(unittest.TestCase):
    def test_made_ones(self):
        chance = random.Random(23)
        many = 0
        for _ in range(1500):
            rows = some_rows(chance, 3)
            self.assertIs(is_template(template_of(rows)), True, template_of(rows))
            self.assertEqual(holes_of(template_of(rows)), tuple(holes_in(rows)), template_of(rows))
            many += len(holes_in(rows))
        self.assertGreater(many, 1500)

    def test_made_ones_with_a_sign_or_a_mark_less(self):
        chance = random.Random(24)
        for _ in range(1500):
            template = template_of(some_rows(chance, 3))
            for mark in ("{", "}", "{{end}}", "<", ">", '"'):
                places = [at for at in range(len(template)) if template.startswith(mark, at)]
                if places:
                    at = chance.choice(places)
                    wrong = template[:at] + template[at + len(mark):]
                    self.assertIs(is_template(wrong), False, wrong)


if __name__ == "__main__":
    unittest.main()
