"""8.1 and 8.2: a desk, its lines and its answers."""

import unittest

from doorhouse.desk import Desk
from doorhouse.errors import NoDeed, NoNumber, NoSite, NoWords
from tests.helper import SITE, anything, objects, refuses, tells
from tests.test_house import NO_MANY

STATE = ("now", "things", "version", "open")
ITEM = 'name="pen" many=5 sold=0'
BEGUN = ("come", "login 1 ann pw-1", "get 2 /", f"post 2 /item 1 {ITEM}", "wait 3")


def desk_with(*lines, keep=0, idle=50):
    desk = Desk(SITE, keep=keep, idle=idle)
    for line in lines:
        desk.say(line)
    return desk


def state(desk):
    return [desk.say(line) for line in STATE]


class Said(unittest.TestCase):
    def said(self, rows, **names):
        """Assert the answer of each of these lines, one behind the other."""
        desk = Desk(SITE, **names)
        for line, told in rows:
            before = repr(line)
            answer = desk.say(line)
            self.assertEqual((answer, type(answer)), (told, str), line)
            self.assertEqual(repr(line), before)
        return desk


class Lines(Said):
    def test_a_day(self):
        self.said((
            ("now", "0"), ("things", "0"), ("version", "0"), ("open", "none"), ("come", "200 1"), ("come", "200 2"), ("open", "1 2"),
            ("login 1 ann pw-1", "200 3"), ("open", "2 3"), ("get 3 /", "200 <p>ann</p> 1"), ("get 0 /", "200 <p/>"), ("get 2 /nowhere", "404"),
            (f"post 3 /item 1 {ITEM}", "303 /"), (f"post 3 /item 1 {ITEM}", "303 /"), ("things", "1"), ("version", "1"),
            ('post 3 /item 1 name="ink" many=5 sold=0', "409"), ("get 3 /item/1", '200 <i is="pen">5/0</i><n>1</n> 2'),
            ("post 3 /item/1/name 2", "400 to"), ('post 3 /item/1/name 2 to="x" x=1', "400"), ('post 3 /item/1/name 2 to="x-1"', "303 /item/1"),
            ("get 0 /item/1", '200 <i is="x-1">/</i><n>1</n>'), ("get 3 /", '200 <p>ann</p><i to="/item/1">x-1 5 0</i> 3'),
            ("post 3 /item/1/sell 3", "303 /item/1"), ("work 1", "1"), ("version", "3"), ("work 5", "1"), ("work 0", "0"), ("wait 49", "49"),
            ("now", "49"), ("open", "2 3"), ("wait 0", "0"), ("logout 3", "200"), ("logout 3", "403"), ("open", "2"), ("wait 2", "2"), ("open", "none"),
            ("get 2 /", "403"), ("undo", "ok"), ("undo", "ok"), ("open", "2"), ("now", "49"),
        ))

    def test_come_and_go(self):
        self.said((
            ("come", "200 1"), ("login 1 ann wrong", "403"), ("login 1 eve pw-1", "403"), ("login 0 ann pw-1", "403"), ("login 9999 ann pw-1", "403"),
            ("login 1 cat -", "200 2"), ("login 2 bob b0b", "200 3"), ("logout 0", "403"), ("logout 1", "403"), ("logout 3", "200"), ("open", "none"),
        ))

    def test_values(self):
        self.said((
            ("come", "200 1"), ("get 1 /", "200 <p/> 1"), ('post 1 /note 1 text=""', "303 /"), ('post 1 /note 1 text=""', "303 /"),
            ('get 1 /', "200 <p/><q/> 2"), ('post 1 /note 2 text="a=b<c>&{{d}}"', "303 /"), ("get 1 /", "200 <p/><q/><q>a=b&lt;c&gt;&amp;{{d}}</q> 3"),
            ("post 1 /note 3 text=5", "400 text"), ('post 1 /note 3 other="5" text="x"', "400"), ("post 1 /note 3", "400 text"),
            ('post 1 /note 3 text="' + "x" * 20 + '"', "303 /"), ("post 1 /nowhere 3", "404"), ("post 1 /note 9", "403"), ("post 0 /note 0", "403"),
            ('post 1 /note 3 text="' + "x" * 40 + '"', "409"), ("things", "3"),
        ))
        desk = desk_with("come", "get 1 /")
        for value, told in (("0", "400 text"), ("9999", "400 text"), ('"' + "x" * 40 + '"', "400 text"), ("\"'\"", "303 /")):
            self.assertEqual(desk.say("post 1 /note 1 text=" + value), told)

    def test_ten_values(self):
        desk = desk_with("come", "get 1 /")
        names = [f"{name}=1" for name in "abcdefghijkl"]
        self.assertEqual(desk.say("post 1 /note 1 " + " ".join(names[:10])), "400 text")
        for many in (11, 12):
            refuses(self, NoWords, desk.say, "post 1 /note 1 " + " ".join(names[:many]))

    def test_numbers_of_four_figures(self):
        self.said((("get 9999 /", "403"), ("post 9999 /item 9999", "403"), ("wait 1000", "1000"), ("work 1000", "0"), ("wait 10", "10"), ("now", "1010")))

    def test_works(self):
        self.said((
            ("come", "200 1"), ("login 1 cat -", "200 2"), ("get 2 /", "200 <p>cat</p> 1"), ('post 2 /item 1 name="x" many=7 sold=3', "303 /"),
            ("get 2 /nowhere", "404"), ("get 2 /item/1", '200 <i is="x">7/3</i><n>1</n> 2'), ("post 2 /7/a/1 2", "303 /pair/7/a/1"), ("work 9", "6"),
            ("version", "7"), ("work 9", "0"), ("things", "1"),
        ))

    def test_keep_and_idle(self):
        desk = desk_with(*BEGUN, "get 0 /", keep=4, idle=4)
        self.assertEqual(desk.say("open"), "2")
        desk.say("get 2 /")
        desk.say('post 2 /note 2 text="x"')
        self.assertNotIn("<q>", desk.say("get 0 /"))
        desk.say("wait 5")
        self.assertIn("<q>", desk.say("get 0 /"))
        self.assertEqual(desk.say("open"), "none")

    def test_undo(self):
        desk = desk_with("come", "wait 5", "work 1")
        self.assertEqual([desk.say("undo") for _ in range(3)], ["ok"] * 3)
        self.assertEqual(state(desk), ["0", "0", "0", "none"])
        refuses(self, NoDeed, desk.say, "undo")

    def test_undo_is_of_deeds_not_of_questions(self):
        desk = desk_with("come", "now", "things", "version", "open")
        desk.say("undo")
        self.assertEqual(desk.say("open"), "none")
        refuses(self, NoDeed, desk.say, "undo")

    def test_as_the_house_refuses_it(self):
        desk = desk_with(*BEGUN)
        before = state(desk)
        for line in ("wait 1001", "wait 9999", "work 1001", "work 9999"):
            refuses(self, NoNumber, desk.say, line)
        self.assertEqual(state(desk), before)

    def test_the_same_question_has_the_same_answer(self):
        desk = desk_with(*BEGUN)
        for line in STATE:
            tells(self, desk.say, line)

    def test_by_name(self):
        self.assertEqual(Desk(SITE).say(line="come"), "200 1")
        with self.assertRaises(TypeError):
            Desk(SITE).say()

    def test_each_method_stands_in_the_class_itself(self):
        for name in ("__init__", "say"):
            self.assertIn(name, vars(Desk))


NO_WORDS = (
    "", " ", "  ", "\n", "\t", "hello", "Come", "COME", "comes", "com", "come ", " come", "come\n", "come 1", "come  ", "come come", "come\tcome",
    "login", "login 1", "login 1 ann", "login 1 ann pw-1 x", "login 1 ann pw-1 ", "login  1 ann pw-1", "login 1  ann pw-1", "login 1 Ann pw-1",
    "login 1 abcdefghi pw-1", "login 1 a1 pw-1", "login 1 ann PW", "login 1 ann 123456789", "login 1 ann", "login 1 ann ", "login 1  pw-1", "login x ann pw-1",
    "login -1 ann pw-1", "login 01 ann pw-1", "login 12345 ann pw-1", "login ann pw-1", "login 1 ann pw_1", "login 1 ann pw-1\n", "login +1 ann pw-1",
    "logout", "logout ", "logout x", "logout 1 1", "logout 00", "logout -0", "logout 1 ", "logout 10000", "logout 1.0", "log out 1",
    "get", "get 1", "get 1 ", "get / 1", "get 1 /A", "get 1 //", "get 1 /a/", "get 1 a", "get 1 / ", "get 1 / 1", "get 01 /", "get 1 /a b", "get x /",
    "get 1 /123456789", "get 1 /a/b/c/d/e/f", "get 10000 /", "get  1 /", "get 1  /", "get\t1 /", "get 1 /\n", "get 1 {a}", "get 1 /{a}", "GET 1 /",
    "post", "post 1", "post 1 /note", "post 1 /note x", "post 1 note 1", "post 1 /note 01", "post 1 /note 10000", "post x /note 1", "post 1 /note 1 ",
    "post 1 /note 1 text", "post 1 /note 1 text=", 'post 1 /note 1 text="', 'post 1 /note 1 text=x', 'post 1 /note 1 text="x', 'post 1 /note 1 text=x"',
    'post 1 /note 1 text="x""', 'post 1 /note 1 text="x"y"', 'post 1 /note 1 text="a b"', 'post 1 /note 1 text= "x"', 'post 1 /note 1 text ="x"',
    'post 1 /note 1 text="x" ', 'post 1 /note 1  text="x"', 'post 1 /note 1 ="x"', 'post 1 /note 1 Text="x"', 'post 1 /note 1 abcdefghi="x"',
    'post 1 /note 1 t1="x"', "post 1 /note 1 text=01", "post 1 /note 1 text=-1", "post 1 /note 1 text=10000", "post 1 /note 1 text=00",
    "post 1 /note 1 text='x'", 'post 1 /note 1 text="x"\n', 'post 1 /note 1 text="x\n"', 'post 1 /note 1 text="\t"', 'post 1 /note 1 text="' + "x" * 41 + '"',
    'post 1 /note 1 text="x" text="x"', 'post 1 /note 1 a=1 b=1 a=2', "post 1 /note 1 a=1b=2", "post 1 /note 1 a=1,b=2", "post 1 /note a=1", "post 1 /note 1 1",
    'post 1 /note 1 text="""', "post 1 /note 1 text==1", 'post 1 /note 1 text=5"', 'post 1 /note 1 text="5',
    "wait", "wait ", "wait x", "wait -1", "wait 01", "wait 1 1", "wait 10000", "wait 1 ", "waits 1", "work", "work ", "work x", "work -1", "work 001", "work 1 1",
    "work 12345", "undo 1", "undo ", "undos", "now 1", "now ", " now", "things 1", "things ", "thing", "version 1", "version ", "open 1", "open ", "opens",
    "none", "ok", "twin", "log", "sessions", "store", "line", "answers", "works",
)


class NoLines(unittest.TestCase):
    def test_nearly_right(self):
        desk = desk_with("come", "get 1 /", "wait 2")
        before = state(desk)
        for line in NO_WORDS:
            refuses(self, NoWords, desk.say, line)
        self.assertEqual(state(desk), before)
        desk.say("undo")
        self.assertEqual(desk.say("now"), "0")

    def test_of_anything(self):
        desk = desk_with("come")
        before = state(desk)
        for thing in anything() + objects() + ["~" * 2000, "come" * 500, ("come",), ["come"], {"come": 1}, b"come"]:
            refuses(self, NoWords, desk.say, thing)
            if isinstance(thing, str):
                for line in (f"{thing} 1 /", f"get {thing} /", f"login 1 {thing} -", f"get 1 {thing}", f"post 1 /note 1 text={thing}", f"wait {thing}"):
                    if line not in ("get 1 /", "get 1 /a", "login 1 a -", "login 1 get -", "login 1 post -", "get 1 /"):
                        refuses(self, NoWords, desk.say, line)
        self.assertEqual(state(desk), before)

    def test_ahead_of_all_else(self):
        # Of a session that doesn't hold, with nothing to undo, and of a number that is too great.
        desk = Desk(SITE)
        for line in ("get 9 a", "post 9 /note 9 x", "undo 1", "wait 1001 1", "work 1001 ", "login 9 ann pw-1 x"):
            refuses(self, NoWords, desk.say, line)


class Desks(unittest.TestCase):
    def test_refused_as_a_house(self):
        for name in SITE:
            refuses(self, NoSite, Desk, dict(SITE, **{name: None}))
        for thing in anything():
            refuses(self, NoSite, Desk, thing, keep=thing)
        for wrong in NO_MANY:
            refuses(self, NoNumber, Desk, SITE, keep=wrong)
            refuses(self, NoNumber, Desk, SITE, idle=wrong)
        refuses(self, NoSite, Desk, {}, keep=-1, idle=-1)

    def test_by_name_alone(self):
        self.assertEqual(Desk(site=SITE, keep=5, idle=0).say("come"), "200 1")
        for places in ((), (SITE, 0), (SITE, 0, 50)):
            with self.assertRaises(TypeError):
                Desk(*places)

    def test_idle_is_50_and_keep_0_where_they_are_left_out(self):
        desk = Desk(SITE)
        for line in ("come", "get 0 /", "get 1 /", 'post 1 /note 1 text="x"', "wait 50"):
            desk.say(line)
        self.assertEqual((desk.say("open"), desk.say("get 0 /")), ("1", "200 <p/><q>x</q>"))
        desk.say("wait 1")
        self.assertEqual(desk.say("open"), "none")
        desk = Desk(SITE)
        for line in ("come", "login 1 ann pw-1", "get 2 /", "get 0 /", 'post 2 /note 1 text="x"'):
            desk.say(line)
        self.assertEqual(desk.say("get 0 /"), "200 <p/><q>x</q>")

    def test_two_have_nothing_in_common(self):
        one, other = Desk(SITE), Desk(SITE)
        for line in BEGUN:
            one.say(line)
        self.assertEqual(state(other), ["0", "0", "0", "none"])
        self.assertEqual(other.say("come"), "200 1")
        self.assertEqual(state(one), ["3", "1", "1", "2"])

    def test_a_site_that_is_changed_later(self):
        site = dict(SITE)
        desk = Desk(site)
        site["pages"] = ()
        self.assertEqual(desk.say("get 0 /"), "200 <p/>")
        self.assertEqual(site, dict(SITE, pages=()))


if __name__ == "__main__":
    unittest.main()
