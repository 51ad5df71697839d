"""2.1: read_marks, and the place that it tells where a text is no marked text."""

import random
import re
import string
import unittest

from doorhouse.errors import NoMarks
from doorhouse.marks import read_marks
from tests.helper import anything, objects, refuses, tells

RICH = '<a one="1" two="&lt;&gt;&amp;&quot;">x &amp; y<b/>&lt;<c d=""><e f=" "/></c></a>z<abcdefgh abcdefgh="=/"></abcdefgh>'


def wrong_at(case, text):
    """Tell the place at which a text is told to be no marked text, None where it is read."""
    try:
        tells(case, read_marks, text)
    except NoMarks:
        return refuses(case, NoMarks, read_marks, text).at
    return None


class Read(unittest.TestCase):
    def test_texts_and_tags(self):
        for text, nodes in (
            ("", ()),
            ("x", ("x",)),
            (" ", (" ",)),
            ("a b", ("a b",)),
            ("<a/>", (("a", (), ()),)),
            ("<a></a>", (("a", (), ()),)),
            ("<a>x</a>", (("a", (), ("x",)),)),
            ("<a> </a>", (("a", (), (" ",)),)),
            ("x<a/>y", ("x", ("a", (), ()), "y")),
            ("<a/><a/>", (("a", (), ()), ("a", (), ()))),
            ("<a><a></a></a>", (("a", (), (("a", (), ()),)),)),
            ("<a>x<b>y</b>z</a>w", (("a", (), ("x", ("b", (), ("y",)), "z")), "w")),
            ("<abcdefgh/>", (("abcdefgh", (), ()),)),
            ("<abcdefgh>x</abcdefgh>", (("abcdefgh", (), ("x",)),)),
            ("{{x}} = / ; ' { }", ("{{x}} = / ; ' { }",)),
        ):
            self.assertEqual(tells(self, read_marks, text), nodes)

    def test_attributes(self):
        for text, attributes in (
            ('<a b=""/>', (("b", ""),)),
            ('<a b="c"/>', (("b", "c"),)),
            ('<a b="c"></a>', (("b", "c"),)),
            ('<a b=" c  d "/>', (("b", " c  d "),)),
            ('<a z="1" b="2" y="3"/>', (("z", "1"), ("b", "2"), ("y", "3"))),
            ('<a a="a" aa="a" aaa="a"/>', (("a", "a"), ("aa", "a"), ("aaa", "a"))),
            ('<a abcdefgh="x" abcdefg="y"/>', (("abcdefgh", "x"), ("abcdefg", "y"))),
            ('<a abcdefg="y" abcdefgh="x"/>', (("abcdefg", "y"), ("abcdefgh", "x"))),
            ("<a b=\"=/'{}\"/>", (("b", "=/'{}"),)),
            ('<a b="&lt;&gt;&amp;&quot;"/>', (("b", '<>&"'),)),
        ):
            self.assertEqual(tells(self, read_marks, text), (("a", attributes, ()),))

    def test_the_same_attribute_in_other_tags(self):
        text = '<a b="1"><a b="2"/><c b="3"/></a>'
        self.assertEqual(read_marks(text), (("a", (("b", "1"),), (("a", (("b", "2"),), ()), ("c", (("b", "3"),), ()))),))

    def test_signs_by_their_and(self):
        for text, meant in (
            ("&lt;", "<"), ("&gt;", ">"), ("&amp;", "&"), ("&quot;", '"'), ("a&lt;b", "a<b"), ("&lt;&lt;", "<<"),
            ("&amp;lt;", "&lt;"), ("&amp;amp;", "&amp;"), ("&amp;quot;", "&quot;"), ("&amp;&lt;;", "&<;"),
            ("&lt;a b=&quot;&quot;/&gt;", '<a b=""/>'), ("&amp;amp;lt;", "&amp;lt;"),
        ):
            self.assertEqual(tells(self, read_marks, text), (meant,))
            self.assertEqual(tells(self, read_marks, f'<a b="{text}">{text}</a>'), (("a", (("b", meant),), (meant,)),))

    def test_a_text_goes_as_far_as_signs_do(self):
        self.assertEqual(read_marks("a&lt;b c&amp;<d/>e&gt;"), ("a<b c&", ("d", (), ()), "e>"))

    def test_a_rich_one(self):
        self.assertEqual(tells(self, read_marks, RICH), (
            ("a", (("one", "1"), ("two", '<>&"')), (
                "x & y", ("b", (), ()), "<", ("c", (("d", ""),), (("e", (("f", " "),), ()),)))),
            "z", ("abcdefgh", (("abcdefgh", "=/"),), ())))

    def test_kinds_and_by_name(self):
        told = read_marks(text='<a b="c">d</a>')
        self.assertEqual(told, (("a", (("b", "c"),), ("d",)),))
        node = told[0]
        self.assertEqual([type(thing) for thing in (told, node, node[1], node[1][0], node[2])], [tuple] * 5)
        with self.assertRaises(TypeError):
            read_marks()

    def test_sixty_tags_within_one_another_and_more(self):
        for many in (60, 61, 100, 285):
            nodes = read_marks("<a>" * many + "x" + "</a>" * many)
            for _ in range(many):
                self.assertEqual((len(nodes), nodes[0][:2]), (1, ("a", ())))
                nodes = nodes[0][2]
            self.assertEqual(nodes, ("x",))

    def test_a_long_row(self):
        self.assertEqual(read_marks("x<a>y</a>" * 222), ("x", ("a", (), ("y",))) * 222)


class Wrong(unittest.TestCase):
    def test_the_first_wrong_sign(self):
        for text, at in (
            (">", 0), ('"', 0), ("a>", 1), ('a"b', 1), ("%", 0), ("ab%", 2), ("a\n", 1), ("\t", 0), ("a\x7f", 1),
            ("<>", 1), ("<<", 1), ("< a/>", 1), ("<A/>", 1), ("<1/>", 1), ("<=", 1), ("<aB/>", 2), ("<a1/>", 2),
            ("</", 1), ("</a>", 1), ("<a/></a>", 5), ("<a></a></a>", 8), ("x</a>", 2),
            ("<abcdefghi/>", 9), ("<abcdefgh1", 9), ("<a<", 2), ('<a"', 2), ("<a=", 2), ("<a&", 2), ("<a\n", 2),
            ("<a/ ", 3), ("<a/a", 3), ("<a//", 3), ("<a />", 3), ("<a  b", 3), ("<a >", 3), ("<a 1", 3), ("<a B", 3),
            ("<a b>", 4), ("<a b/>", 4), ("<a b ", 4), ("<a b1", 4), ("<a b=b", 5), ("<a b='", 5), ("<a b= ", 5),
            ("<a b==", 5), ("<a abcdefghi=", 11), ('<a b="<', 6), ('<a b=">', 6), ('<a b="%', 6), ('<a b="\n', 6),
            ('<a b="c"d', 8), ('<a b="""', 7), ('<a b="c"=', 8), ('<a b="c"  d', 9), ('<a b="c" />', 9),
            ("<a></b>", 5), ("<a></ab>", 6), ("<ab></a>", 7), ("<ab></ac>", 7), ("<a></a >", 6), ("<a></ a>", 5),
            ("<a></>", 5), ("<a><//", 5), ("<a></A", 5), ("<a><b></a>", 8), ("<a><b/></b>", 9), ("<a>>", 3),
            ("<a></a/>", 6), ('<a></a b="">', 6),
            ("&b", 1), ("&;", 1), ("& ", 1), ("&&", 1), ("&<", 1), ("&l;", 2), ("&ltt", 3),
            ("&lt ", 3), ("&am;", 3), ("&ampe", 4), ("&g;", 2), ("&qu;", 3), ("&quo;", 4), ("&quott", 5), ("&LT;", 1),
            ("&apos;", 2), ("&#60;", 1), ("&lt;&gl", 6), ('<a b="&"', 7), ('<a b="&lx', 8), ("<a>&</a>", 4),
            ("&ltamp;", 3), ("&algt;", 2),
        ):
            self.assertEqual(wrong_at(self, text), at, text)
            self.assertEqual(wrong_at(self, text + RICH), at, text)

    def test_ends_too_early(self):
        for text in (
            "<", "<a", "<abcdefgh", "<a ", "<a b", "<a b=", '<a b="', '<a b="c', '<a b="c"', "<a/", "<a>", "<a>x", "<a><",
            "<a></", "<a></a", "<ab></a", "<a><b/>", "<a><b></b>", "&", "&l", "&lt", "&g", "&gt", "&a", "&am", "&amp",
            "&q", "&qu", "&quo", "&quot", "x&", '<a b="&', '<a b="&quot', "<a>&am", '<a b="" b', '<a b="" c', "x<",
        ):
            self.assertEqual(wrong_at(self, text), len(text), text)

    def test_each_beginning_of_a_marked_text(self):
        whole = {"", *[RICH[:at] for at in (RICH.index("z"), RICH.index("z") + 1, len(RICH))]}
        for at in range(len(RICH) + 1):
            text = RICH[:at]
            self.assertEqual(wrong_at(self, text), None if text in whole else at, text)
            self.assertEqual(wrong_at(self, text + "\n"), at, text)
            self.assertEqual(wrong_at(self, text + "%" + RICH[at:]), at, text)

    def test_each_sign_at_each_place(self):
        signs = [chr(code) for code in range(256)] + ["\u0430", "\u2028"]
        value_signs = [sign for sign in signs if " " <= sign <= "~" and sign != "%"]
        letters = list(string.ascii_lowercase)
        plain = [sign for sign in value_signs if sign not in '<>&"']
        for ahead, may in (
            ("", plain + ["<", "&"]), ("x", plain + ["<", "&"]), ("<a>", plain + ["<", "&"]), ("<a/>", plain + ["<", "&"]),
            ("<", letters), ("<a><", letters + ["/"]), ("<a", letters + [" ", ">", "/"]), ("<abcdefgh", [" ", ">", "/"]),
            ("<a/", [">"]), ("<a ", letters), ("<a b", letters + ["="]), ("<a abcdefgh", ["="]), ("<a b=", ['"']),
            ('<a b="', plain + ["&", '"']), ('<a b="x', plain + ["&", '"']), ('<a b=""', [" ", ">", "/"]),
            ('<a b="" ', letters), ('<a b="" b', letters), ('<a b="" c', letters + ["="]),
            ("<ab></", ["a"]), ("<ab></a", ["b"]), ("<ab></ab", [">"]),
            ("&", ["l", "g", "a", "q"]), ("&l", ["t"]), ("&lt", [";"]), ("&g", ["t"]), ("&a", ["m"]), ("&am", ["p"]),
            ("&amp", [";"]), ("&q", ["u"]), ("&qu", ["o"]), ("&quo", ["t"]), ("&quot", [";"]), ('<a b="&', ["l", "g", "a", "q"]),
        ):
            for sign in signs:
                at = wrong_at(self, ahead + sign)
                if sign in may:
                    self.assertIn(at, (None, len(ahead) + 1), (ahead, sign))
                else:
                    self.assertEqual(at, len(ahead), (ahead, sign))

    def test_of_no_text(self):
        for thing in [thing for thing in anything() if not isinstance(thing, str)] + objects() + [b"<a/>"]:
            self.assertEqual(refuses(self, NoMarks, read_marks, thing).at, -1, thing)

    def test_of_any_text(self):
        for thing in [thing for thing in anything() if isinstance(thing, str)]:
            at = wrong_at(self, thing)
            self.assertTrue(at is None or type(at) is int and 0 <= at <= len(thing), thing)


class NamesOfATag(unittest.TestCase):
    def test_a_shorter_one_breaks_at_the_sign_behind_it(self):
        for name in ("b", "bc", "abcdefg"):
            ahead = f'<a {name}="" {name}'
            for behind in ('=""/>', "=", ">", " ", "", "/", "1"):
                self.assertEqual(wrong_at(self, ahead + behind), len(ahead), ahead + behind)
            self.assertIsNone(wrong_at(self, f'{ahead}x=""/>'))

    def test_one_of_eight_letters_breaks_at_its_last(self):
        ahead = '<a abcdefgh="" abcdefg'
        for behind in ('h=""/>', "h=", "h", "h>", "hi"):
            self.assertEqual(wrong_at(self, ahead + behind), len(ahead), behind)
        self.assertIsNone(wrong_at(self, f'{ahead}=""/>'))
        self.assertIsNone(wrong_at(self, f'{ahead}i=""/>'))
        self.assertEqual(wrong_at(self, f'{ahead}iabc'), len(ahead) + 1)

    def test_not_only_the_one_just_ahead(self):
        ahead = '<a b="" c="" d="" '
        for name in "bcd":
            self.assertEqual(wrong_at(self, f'{ahead}{name}=""/>'), len(ahead) + 1)
        self.assertIsNone(wrong_at(self, f'{ahead}e=""/>'))

    def test_where_no_letter_is_left(self):
        # All names that begin with these seven letters are there, so already the seventh goes on to none.
        names = ["abcdefg"] + ["abcdefg" + letter for letter in string.ascii_lowercase]
        for lacks in names:
            ahead = "<a" + "".join([f' {name}=""' for name in names if name != lacks])
            self.assertIsNone(wrong_at(self, f'{ahead} {lacks}=""/>'), lacks)
        ahead = "<a" + "".join([f' {name}=""' for name in names])
        self.assertEqual(wrong_at(self, f'{ahead} abcdefg=""/>'), len(ahead) + 7)
        self.assertEqual(wrong_at(self, f'{ahead} abcdefgz=""/>'), len(ahead) + 7)
        self.assertIsNone(wrong_at(self, f'{ahead} abcdef=""/>'))


ATTRIBUTES = r'(?: [a-z]{1,8}="(?:[^<>&"%]|&(?:lt|gt|amp|quot);)*")*'
SIGNS = re.compile(r"(?:[ !#$'-;=?-~]|&(?:lt|gt|amp|quot);|\x00)*")


def is_marked(text):
    """Tell whether a text is a marked text, said a second time: tags are taken out from within, each for a nought."""
    if re.search(r"[^ -~]|%", text):
        return False
    for tag in re.findall(r"<[a-z]+[^<>]*>", text):
        names = re.findall(r' ([a-z]+)="[^"]*"', tag)
        if len(set(names)) < len(names):
            return False
    before = None
    while text != before:
        before = text
        text = re.sub(rf"<[a-z]{{1,8}}{ATTRIBUTES}/>", "\x00", text)
        text = re.sub(rf"<([a-z]{{1,8}}){ATTRIBUTES}>((?:{SIGNS.pattern}))</\1>", "\x00", text)
    return SIGNS.fullmatch(text) is not None


def tags_not_closed(text):
    around = []
    for closing, name, ends in re.findall(r"<(/?)([a-z]*)[^<>]*?(/?)>", text):
        if closing:
            around = around[:-1]
        elif not ends:
            around.append(name)
    return around


def goes_on(text):
    """Tell whether some marked text begins with this one, by trying how it may go on."""
    stand_ins = ["", *[tail[at:] for tail in ("&lt;", "&gt;", "&amp;", "&quot;") for at in range(1, len(tail))]]
    ends = stand_ins + [end + '">' for end in stand_ins]
    ends += [">", "/>", "q>", 'q="">', '="">', '"">', 'qqqqqqq="">']
    for name in tags_not_closed(text)[-1:]:
        ends += [f"</{name}>"[at:] for at in range(1, len(name) + 3)]
    for end in ends:
        whole = text + end
        closings = "".join([f"</{name}>" for name in tags_not_closed(whole)[::-1]])
        if is_marked(whole + closings):
            return True
    return False


class ByChance(unittest.TestCase):
    def test_against_the_words_of_the_document(self):
        chance = random.Random(21)
        pieces = ("<a", "<b", "<", ">", "/>", "/", "</a>", "</b>", "</", "a", "b", "x", " a", ' a="', ' b="', ' x=""', '="',
                  '"', "=", " ", "&lt;", "&amp;", "&", "&q", "uot;", ";", "abcdefgh", ' abcdefgh=""', "%", "\n", "{{x}}")
        told = {"read": 0, "early": 0, "wrong": 0}
        for _ in range(4000):
            text = ""
            while len(text) < chance.randrange(1, 40):
                piece = chance.choice(pieces)
                # Mostly what goes on, so that texts get far.
                if chance.random() < 0.15 or goes_on(text + piece):
                    text += piece
            at = wrong_at(self, text)
            self.assertEqual(at is None, is_marked(text), text)
            if at is not None:
                self.assertTrue(goes_on(text[:at]), (text, at))
                self.assertTrue(at == len(text) or not goes_on(text[:at + 1]), (text, at))
            told["read" if at is None else "early" if at == len(text) else "wrong"] += 1
        self.assertGreater(min(told.values()), 300)


if __name__ == "__main__":
    unittest.main()
