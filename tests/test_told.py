"""6.7: what a house tells, undo, twins, == and a house told its log again."""

import itertools
import unittest

from doorhouse.errors import NoDeed, NoLog, NoNumber, NoSite
from doorhouse.house import House, house_of
from doorhouse.store import Store
from tests.helper import LOGINS, SITE, anything, get, house_with, objects, post, put, refuses, shown
from tests.test_house import NO_MANY, NO_REQUESTS

ANN, BOB, CAT = 4, 5, 6
# A log with each sort of deed, each sort of answer, kept pages, works that are done, undone and on their way.
ENTRIES = LOGINS + (
    put(ANN, 1), put(ANN, 1), put(ANN, 1, "ink"), 3, get(0), get(BOB), put(BOB, 1, "cap", 0, 7), put(CAT, 1, "", 1, 1), get(9), get(ANN), get(ANN),
    post(ANN, "/item/1/sell", 2), ("work", 1), post(ANN, "/item/1/drop", 3), get(BOB, "/item/2"), get(CAT), get(CAT, "/item/7"), ("work", 2),
    post(CAT, "/item/2/sell", 2), get(CAT), post(CAT, "/1/a/1", 3), ("work", 1), 0, get(CAT), ("work", 3), ("come",), get(7),
    post(7, "/note", 1, text="x"), post(7, "/note", 1, text="x"), ("logout", 7), 5, get(0), get(ANN, "/"), post(ANN, "/item/1/name", 3, to="nib"),
    ("login", BOB, "cat", "b0b"), ("login", BOB, "cat", "-"), post(ANN, "/item/1/drop", 4), ("work", 9), 40, get(4), 11, get(4), get(0),
)


def house(many=len(ENTRIES), keep=4, idle=45):
    return house_with(*ENTRIES[:many], keep=keep, idle=idle)


def plain_log(entries):
    return tuple([("wait", entry) if isinstance(entry, int) else entry for entry in entries])


class Told(unittest.TestCase):
    def test_the_log_above_has_all_sorts_of_answers(self):
        told = house()
        self.assertEqual({answer[0] for answer in told.answers()}, {200, 303, 400, 403, 404, 409})
        self.assertEqual({word for name, number, word in told.works()}, {"done", "undone"})

    def test_now(self):
        told = House(SITE)
        self.assertEqual((told.now(), type(told.now())), (0, int))
        for many, now in ((5, 5), (0, 5), (1, 6)):
            told.wait(many)
            self.assertEqual(told.now(), now)
        told.ask(("come",))
        told.work(5)
        self.assertEqual(told.now(), 6)

    def test_store_is_a_twin(self):
        told = house_with(*LOGINS, put(ANN, 1))
        store = told.store()
        self.assertIs(type(store), Store)
        self.assertEqual((store.things(), store.version()), ((("item", 1, "ann", ("pen", 5, 0)),), 1))
        before = shown(told)
        store.done((("remove", "item", 1),))
        self.assertEqual(shown(told), before)
        self.assertNotEqual(told.store(), store)
        told.ask(put(BOB, 1))
        self.assertEqual(store.things(), ())
        self.assertEqual(told.store().version(), 2)

    def test_store_has_all_versions(self):
        told = house_with(*LOGINS, put(ANN, 1), get(ANN), post(ANN, "/item/1/name", 2, to="x"))
        self.assertEqual([len(told.store().as_of(version)) for version in range(3)], [0, 1, 1])
        self.assertEqual(told.store().done((("add", "item", "", ("", 0, 0)),)), (2,))

    def test_sessions(self):
        told = house_with(*LOGINS, ("come",), 50, get(CAT))
        self.assertEqual(told.sessions(), ((4, "ann"), (5, "bob"), (6, "cat"), (7, None)))
        told.wait(1)
        self.assertEqual(told.sessions(), ((6, "cat"),))

    def test_works(self):
        told = house_with(*LOGINS, put(CAT, 1), get(CAT), post(CAT, "/item/1/sell", 2))
        self.assertEqual(told.works(), (("sell", 1, "waits"),))
        self.assertEqual([type(part) for part in told.works()[0]], [str, int, str])

    def test_log(self):
        self.assertEqual(house().log(), tuple([("wait", entry) if isinstance(entry, int) else entry for entry in ENTRIES]))

    def test_log_and_its_dicts_are_the_askers_own(self):
        told = house()
        before = shown(told)
        for entry in told.log():
            if entry[0] == "post":
                entry[4]["other"] = 1
                entry[4].pop("name", None)
        self.assertEqual(shown(told), before)
        self.assertEqual(shown(house_of(SITE, told.log(), keep=4, idle=45)), before)

    def test_answers(self):
        told = house_with(("come",), get(1), 5, post(1, "/note", 1, text="x"), ("work", 5), get(9), get(0, "/nowhere"))
        self.assertEqual(told.answers(), (
            (200, "", 1), (200, "<p/>", 1), (200, "", 0), (303, "/", 0), (200, "", 0), (403, "", 0), (404, "", 0)))
        told = house_with(*LOGINS, put(CAT, 1), get(CAT), post(CAT, "/item/1/sell", 2), ("work", 1), ("work", 5), ("work", 5))
        self.assertEqual(told.answers()[-3:], ((200, "", 1), (200, "", 1), (200, "", 0)))

    def test_answers_are_those_that_were_told(self):
        told = House(SITE, keep=4, idle=45)
        answers = []
        for entry in plain_log(ENTRIES):
            if entry[0] == "wait":
                told.wait(entry[1])
                answers.append((200, "", 0))
            elif entry[0] == "work":
                answers.append((200, "", told.work(entry[1])))
            else:
                answers.append(told.ask(entry))
        self.assertEqual(told.answers(), tuple(answers))

    def test_len_is_how_many_requests(self):
        told = House(SITE)
        for entry, many in ((("come",), 1), (5, 1), (get(1), 2), (("work", 5), 2), (get(9), 3), (0, 3), (post(9, "/", 0), 4)):
            told.wait(entry) if isinstance(entry, int) else told.work(entry[1]) if entry[0] == "work" else told.ask(entry)
            self.assertEqual(len(told), many)
        told.undo()
        self.assertEqual(len(told), 3)

    def test_the_same_question_has_the_same_answer(self):
        told = house()
        self.assertEqual(shown(told), shown(told))

    def test_kinds(self):
        told = house()
        self.assertEqual([type(part) for part in (told.sessions(), told.works(), told.log(), told.answers(), told.line())], [tuple] * 5)


class Undo(unittest.TestCase):
    def test_behind_each_deed(self):
        told = House(SITE, keep=4, idle=45)
        states = []
        for entry in ENTRIES:
            states.append(shown(told))
            told.wait(entry) if isinstance(entry, int) else told.work(entry[1]) if entry[0] == "work" else told.ask(entry)
            # Undone and done again, it is as before.
            behind = shown(told)
            self.assertIsNone(told.undo())
            self.assertEqual(shown(told), states[-1], entry)
            told.wait(entry) if isinstance(entry, int) else told.work(entry[1]) if entry[0] == "work" else told.ask(entry)
            self.assertEqual(shown(told), behind, entry)
        for state in reversed(states):
            told.undo()
            self.assertEqual(shown(told), state)
        self.assertEqual(told, House(SITE, keep=4, idle=45))
        refuses(self, NoDeed, told.undo)

    def test_where_none_stands(self):
        told = House(SITE)
        refuses(self, NoDeed, told.undo)
        self.assertEqual(shown(told), shown(House(SITE)))
        told.wait(0)
        told.undo()
        refuses(self, NoDeed, told.undo)

    def test_what_was_refused_is_no_deed(self):
        told = house_with(("come",), 5)
        for action, thing in ((told.ask, ("come", 1)), (told.wait, -1), (told.work, 1001)):
            with self.assertRaises(ValueError):
                action(thing)
        told.undo()
        self.assertEqual(told.log(), (("come",),))

    def test_numbers_are_given_again(self):
        told = house_with(*LOGINS, put(ANN, 1))
        told.undo()
        told.ask(put(BOB, 1, "ink"))
        self.assertEqual(told.store().things(), (("item", 1, "bob", ("ink", 5, 0)),))
        self.assertEqual(told.ask(("come",)), (200, "", 7))
        told.undo()
        self.assertEqual(told.ask(("come",)), (200, "", 7))

    def test_a_ticket_is_there_again(self):
        told = house_with(*LOGINS, put(ANN, 1))
        told.undo()
        self.assertEqual(told.ask(put(ANN, 1, "ink")), (303, "/", 0))

    def test_a_kept_page_is_kept_again(self):
        told = house_with(*LOGINS, put(BOB, 1), put(ANN, 1), keep=9)
        told.undo()
        self.assertEqual(told.ask(get(ANN)), (200, "<p>ann</p>", 2))


class Twins(unittest.TestCase):
    def equal(self, one, other, so):
        for told, due in ((one == other, so), (other == one, so), (one != other, not so), (other != one, not so)):
            self.assertIs(told, due)

    def test_a_twin_has_all(self):
        for many in range(0, len(ENTRIES) + 1, 5):
            told = house(many)
            twin = told.twin()
            self.assertIs(type(twin), House)
            self.assertEqual(shown(twin), shown(told))
            self.equal(told, twin, True)
            for entry in plain_log(ENTRIES[many:many + 5]):
                if entry[0] not in ("wait", "work"):
                    self.assertEqual(twin.ask(entry), told.ask(entry))
            self.assertEqual(shown(twin), shown(told))

    def test_a_twin_goes_its_own_way(self):
        told = house()
        before = shown(told)
        twin = told.twin()
        twin.ask(("come",))
        self.equal(told, twin, False)
        twin.wait(3)
        twin.work(3)
        self.assertEqual(shown(told), before)
        for _ in range(3):
            twin.undo()
        self.equal(told, twin, True)
        twin.undo()
        self.assertEqual(shown(told), before)
        told.undo()
        self.equal(told, twin, True)

    def test_a_twin_keeps_keep_and_idle(self):
        told = house_with(*LOGINS, get(0), put(ANN, 1), keep=3, idle=3)
        twin = told.twin()
        twin.wait(3)
        self.assertEqual(twin.ask(get(0)), (200, "<p/>", 0))
        self.assertEqual(len(twin.sessions()), 3)
        twin.wait(1)
        self.assertNotEqual(twin.ask(get(0)), (200, "<p/>", 0))
        self.assertEqual(twin.sessions(), ())

    def test_equal_where_sites_keep_idle_and_logs_are(self):
        other = dict(SITE, people=SITE["people"][:2])
        for one, two in itertools.product((0, 1), repeat=2):
            for name in ("keep", "idle"):
                self.equal(House(SITE, **{name: one}), House(SITE, **{name: two}), one == two)
        self.equal(House(SITE), House(dict(reversed(list(SITE.items())))), True)
        self.equal(House(SITE), House(other), False)
        self.equal(house_with(("come",)), house_with(("come",), site=other), False)
        self.equal(house(), house(), True)
        self.equal(house(), house(keep=5), False)
        self.equal(house(), house(idle=46), False)
        self.equal(house(), house(len(ENTRIES) - 1), False)
        self.equal(house_with(5), house_with(2, 3), False)
        self.equal(house_with(("work", 1)), house_with(("work", 2)), False)
        self.equal(house_with(get(0)), house_with(get(9)), False)
        self.equal(house_with(post(0, "/", 0, a=1, b="")), house_with(("post", 0, "/", 0, {"b": "", "a": 1})), True)
        self.equal(house_with(post(0, "/", 0, a=1)), house_with(post(0, "/", 0, a="1")), False)

    def test_equals_nothing_else(self):
        for told in (House(SITE), house()):
            for thing in [SITE, told.log(), told.answers(), told.store(), 0, (), [], {}, "", None, True, object(), House] + objects():
                if not isinstance(thing, House):
                    self.equal(told, thing, False)

    def test_two_houses_have_nothing_in_common(self):
        one, other = House(SITE), House(SITE)
        for entry in LOGINS:
            one.ask(entry)
        self.assertEqual(shown(other), shown(House(SITE)))
        self.assertEqual(other.ask(("come",)), (200, "", 1))


class HouseOf(unittest.TestCase):
    def test_its_own_log(self):
        for many in range(0, len(ENTRIES) + 1, 3):
            told = house(many)
            again = house_of(SITE, told.log(), keep=4, idle=45)
            self.assertIs(type(again), House)
            self.assertEqual(again, told)
            self.assertEqual(shown(again), shown(told))

    def test_left_out_and_by_name(self):
        log = plain_log(ENTRIES)
        self.assertEqual(shown(house_of(SITE, log)), shown(house(keep=0, idle=50)))
        self.assertEqual(shown(house_of(log=log, site=SITE, idle=3, keep=2)), shown(house(keep=2, idle=3)))
        self.assertEqual(house_of(SITE, ()), House(SITE, keep=0, idle=50))
        for places in ((), (SITE,), (SITE, (), 0)):
            with self.assertRaises(TypeError):
                house_of(*places)

    def test_what_is_handed_in_stays(self):
        log = plain_log(ENTRIES)
        before = repr(log)
        told = house_of(SITE, log)
        told.undo()
        self.assertEqual(repr(log), before)
        # And what is changed later changes nothing.
        log[9][4]["name"] = "other"
        self.assertEqual(told.log()[9], put(ANN, 1))
        log[9][4]["name"] = "pen"

    def test_no_log(self):
        for thing in NO_REQUESTS:
            if thing in (("wait", 1), ("work", 1)):
                continue
            for log in ((thing,), (("come",), thing), (thing, ("come",))):
                refuses(self, NoLog, house_of, SITE, log)
        for word in ("wait", "work"):
            for wrong in NO_MANY:
                refuses(self, NoLog, house_of, SITE, ((word, wrong),))
            for wrong in ((word,), (word, 1, 1), [word, 1], (word.title(), 1), (1, word), ((word,), 1), ([word], 1)):
                refuses(self, NoLog, house_of, SITE, (wrong,))
            for many in (0, 1, 1000):
                self.assertEqual(len(house_of(SITE, ((word, many),)).log()), 1)
        for wrong in ([], {}, None, "", "come", 0, True, [("come",)], ("come",), ("wait", 1), {("come",): 1}):
            refuses(self, NoLog, house_of, SITE, wrong)

    def test_of_anything(self):
        for thing in anything():
            if not (isinstance(thing, tuple) and thing == ()):
                refuses(self, NoLog, house_of, SITE, thing)
            refuses(self, NoLog, house_of, SITE, (thing,))
            refuses(self, NoLog, house_of, SITE, (("wait", 1), ("come",), thing))
            refuses(self, NoSite, house_of, thing, thing, keep=thing, idle=thing)

    def test_the_first_that_is_due(self):
        for so in itertools.product((True, False), repeat=4):
            if False in so:
                site, log = SITE if so[0] else {}, () if so[1] else []
                keep, idle = 5 if so[2] else -1, 5 if so[3] else 1001
                refuses(self, (NoSite, NoLog, NoNumber, NoNumber)[so.index(False)], house_of, site, log, keep=keep, idle=idle)

    def test_numbers(self):
        for wrong in NO_MANY:
            refuses(self, NoNumber, house_of, SITE, (), keep=wrong)
            refuses(self, NoNumber, house_of, SITE, (), idle=wrong)


if __name__ == "__main__":
    unittest.main()
