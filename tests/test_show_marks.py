"""2.2: show_marks, and what are no nodes."""

import random
import re
import unittest

from doorhouse.errors import NoNodes
from doorhouse.marks import read_marks, show_marks
from tests.helper import anything, objects, refuses, tells

EMPTY = ("a", (), ())


class Show(unittest.TestCase):
    def test_texts_and_tags(self):
        for nodes, text in (
            ((), ""),
            (("x",), "x"),
            ((" ",), " "),
            ((EMPTY,), "<a/>"),
            ((EMPTY, EMPTY), "<a/><a/>"),
            ((("a", (), ("x",)),), "<a>x</a>"),
            (("x", EMPTY, "y"), "x<a/>y"),
            ((("a", (), (("b", (), (EMPTY, "y")), "z")), "w"), "<a><b><a/>y</b>z</a>w"),
            ((("abcdefgh", (("abcdefgh", ""), ("abcdefg", "x")), ()),), '<abcdefgh abcdefgh="" abcdefg="x"/>'),
            ((("a", (("z", "1"), ("b", "2")), ("x",)),), '<a z="1" b="2">x</a>'),
            (("{{x}} = / ; ' { }",), "{{x}} = / ; ' { }"),
        ):
            self.assertEqual(tells(self, show_marks, nodes), text)

    def test_signs_by_their_and(self):
        for text, shown in (
            ("<", "&lt;"), (">", "&gt;"), ("&", "&amp;"), ('"', "&quot;"), ("&lt;", "&amp;lt;"), ("&amp;", "&amp;amp;"),
            ('<a b="c"/>', "&lt;a b=&quot;c&quot;/&gt;"), ("a&b<c", "a&amp;b&lt;c"), ("&quot;", "&amp;quot;"),
        ):
            self.assertEqual(tells(self, show_marks, (text,)), shown)
            self.assertEqual(tells(self, show_marks, (("a", (("b", text),), ()),)), f'<a b="{shown}"/>')
            self.assertEqual(tells(self, show_marks, (("a", (), (text,)),)), f"<a>{shown}</a>")

    def test_a_tag_without_nodes(self):
        for text, shown in (("<a></a>", "<a/>"), ('<a b=""><c></c></a>', '<a b=""><c/></a>'), ("<a> </a>", "<a> </a>")):
            self.assertEqual(show_marks(read_marks(text)), shown)

    def test_of_the_nodes_of_any_size(self):
        for many in (60, 61, 100, 285):
            text = "<a>" * many + "x" + "</a>" * many
            self.assertEqual(show_marks(read_marks(text)), text)
        self.assertEqual(show_marks((("a", (), ("x" * 3000,)),) * 300), ("<a>" + "x" * 3000 + "</a>") * 300)

    def test_kinds_and_by_name(self):
        self.assertEqual(show_marks(nodes=(EMPTY,)), "<a/>")
        self.assertIs(type(show_marks(())), str)
        with self.assertRaises(TypeError):
            show_marks()


NO_NODES = (
    ("",), ("x", ""), ("x", "y"), (EMPTY, "x", "y"), ("", EMPTY), ("a\n",), ("\t",), ("%",), ("a%b",), ("\u00e4",), ("\x7f",),
    [EMPTY], EMPTY, "x", "<a/>", "", None, 0, 5, True, {}, [], (None,), (5,), (True,), ([],), ({},), ((),), (["x"],),
    (("a",),), (("a", ()),), (("a", (), (), ()),), (["a", (), ()],), (("x",),), ((EMPTY,),),
    (("", (), ()),), (("A", (), ()),), (("abcdefghi", (), ()),), (("a1", (), ()),), ((None, (), ()),), ((5, (), ()),),
    ((("a",), (), ()),), ((["a"], (), ()),),
    (("a", [], ()),), (("a", {}, ()),), (("a", None, ()),), (("a", "", ()),), (("a", "bc", ()),), (("a", ("b", "c"), ()),),
    (("a", (("b",),), ()),), (("a", (("b", "c", "d"),), ()),), (("a", (["b", "c"],), ()),), (("a", ("bc",), ()),),
    (("a", (("", "c"),), ()),), (("a", (("B", "c"),), ()),), (("a", (("abcdefghi", "c"),), ()),), (("a", ((5, "c"),), ()),),
    (("a", ((["b"], "c"),), ()),), (("a", (("b", 5),), ()),), (("a", (("b", None),), ()),), (("a", (("b", ("c",)),), ()),),
    (("a", (("b", "%"),), ()),), (("a", (("b", "\n"),), ()),), (("a", (("b", "c"), ("b", "d")), ()),),
    (("a", (("b", "c"), ("d", ""), ("b", "c")), ()),),
    (("a", (), []),), (("a", (), "x"),), (("a", (), None),), (("a", (), ("",)),), (("a", (), ("x", "y")),),
    (("a", (), (("b", (), ("x", ("c", (), ("%",)))),)),), (("a", (), (["b", (), ()],)),), (("a", (), EMPTY),),
)


class Refusals(unittest.TestCase):
    def test_what_is_nearly_right(self):
        for thing in NO_NODES:
            refuses(self, NoNodes, show_marks, thing)
            refuses(self, NoNodes, show_marks, (("a", (), thing),))
            refuses(self, NoNodes, show_marks, ("x", EMPTY, ("b", (), ("y", ("a", (), thing)))))
            if isinstance(thing, tuple):
                refuses(self, NoNodes, show_marks, (EMPTY, *thing))
                refuses(self, NoNodes, show_marks, (*thing, EMPTY))

    def test_a_list_stays_as_it_was(self):
        thing = [["a", [["b", "c"]], ["x"]]]
        refuses(self, NoNodes, show_marks, thing)
        self.assertEqual(thing, [["a", [["b", "c"]], ["x"]]])

    def test_of_anything(self):
        right = 0
        for thing in anything() + objects():
            for nodes in (
                thing, (thing,), ((thing, (), ()),), (("a", thing, ()),), (("a", (thing,), ()),), (("a", ((thing, "x"),), ()),),
                (("a", (("b", thing),), ()),), (("a", (), thing),),
            ):
                if are_nodes(nodes):
                    self.assertEqual(read_marks(tells(self, show_marks, nodes)), nodes)
                    right += 1
                else:
                    refuses(self, NoNodes, show_marks, nodes)
        self.assertGreater(right, 50)


def are_nodes(thing):
    """Tell whether these are nodes, said a second time."""
    if type(thing) is not tuple:
        return False
    for at, node in enumerate(thing):
        if type(node) is str:
            if not TEXT.fullmatch(node) or node == "" or at > 0 and type(thing[at - 1]) is str:
                return False
        elif type(node) is not tuple or len(node) != 3 or not is_named(node[0]) or type(node[1]) is not tuple:
            return False
        else:
            for pair in node[1]:
                if type(pair) is not tuple or len(pair) != 2 or not is_named(pair[0]):
                    return False
                if type(pair[1]) is not str or not TEXT.fullmatch(pair[1]):
                    return False
            if len(dict(node[1])) < len(node[1]) or not are_nodes(node[2]):
                return False
    return True


def is_named(thing):
    return type(thing) is str and re.fullmatch("[a-z]{1,8}", thing) is not None


TEXT = re.compile("[ -$&-~]*")


def some_text(chance, least):
    return "".join([chance.choice("ab <>&\"';lt{}~") for _ in range(chance.randrange(least, 6))])


def some_nodes(chance, deep):
    """Tell nodes made by chance."""
    nodes = []
    for _ in range(chance.randrange(0, 4)):
        if chance.random() < 0.4 and not (nodes and isinstance(nodes[-1], str)):
            nodes.append(some_text(chance, 1))
        else:
            names = chance.sample(["a", "b", "to", "abcdefgh", "abcdefg"], chance.randrange(0, 4))
            attributes = tuple([(name, some_text(chance, 0)) for name in names])
            within = some_nodes(chance, deep - 1) if deep > 0 else ()
            nodes.append((chance.choice(("a", "b", "abcdefgh")), attributes, within))
    return tuple(nodes)


class ThereAndBack(unittest.TestCase):
    def test_what_is_shown_is_read_to_the_same(self):
        chance = random.Random(22)
        for _ in range(1500):
            nodes = some_nodes(chance, 4)
            text = tells(self, show_marks, nodes)
            self.assertEqual(read_marks(text), nodes)
            self.assertNotRegex(text, r'<[a-z]+(?: [a-z]+="[^"]*")*></')
            self.assertEqual(show_marks(read_marks(text)), text)


if __name__ == "__main__":
    unittest.main()
