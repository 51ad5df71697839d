"""7.1 and 7.2: lines, the first place at which one is wrong, and the answers of a plain house."""

import itertools
import unittest

from doorhouse.errors import NoLine
from doorhouse.house import House
from doorhouse.lines import first_wrong, is_line, plain_of
from tests.helper import LOGINS, SITE, anything, get, house_with, objects, post, put, refuses, shown
from tests.test_told import ENTRIES

ANN, BOB, CAT = 4, 5, 6


def notes(*entries, keep=0):
    """Tell a house with two sessions of no asker, 1 and 2, and a session 4 of ann's, with three tickets each."""
    return house_with(("come",), ("come",), ("come",), ("login", 3, "ann", "pw-1"), *[get(session) for session in (1, 2, 4) for _ in range(3)],
                      *entries, keep=keep)


def note(session, ticket, text="x"):
    return post(session, "/note", ticket, text=text)


class Lines(unittest.TestCase):
    def told(self, house, thing, wrong):
        """Assert what is told of a line: None, or the first place at which it is wrong."""
        before = shown(house)
        self.assertEqual(first_wrong(house, thing), wrong, thing)
        self.assertIs(is_line(house, thing), wrong is None, thing)
        if wrong is None:
            self.assertEqual(plain_of(house, thing), house.answers())
        else:
            refuses(self, NoLine, plain_of, house, thing)
        self.assertEqual(shown(house), before)

    def last(self, house, right):
        """Assert which versions the last of the log may have, all else being the house's own."""
        line = house.line()
        for version in range(-1, house.store().version() + 2):
            self.told(house, line[:-1] + (version,), None if version in right else len(line) - 1)

    def test_the_houses_own(self):
        for keep in (0, 1, 4, 9, 1000):
            for many in range(0, len(ENTRIES) + 1, 2):
                house = house_with(*ENTRIES[:many], keep=keep, idle=45)
                self.told(house, house.line(), None)

    def test_an_empty_log(self):
        house = House(SITE)
        self.told(house, (), None)
        self.assertEqual(plain_of(house, ()), ())
        self.told(house, (None,), -1)
        self.told(house, [], -1)

    def test_none_for_all_else(self):
        house = notes(5, ("work", 1), note(1, 1), get(9), ("logout", 2), get(2), post(1, "/nowhere", 1), ("come",), ("login", 5, "ann", "x"))
        line = house.line()
        for at, version in enumerate(line):
            for wrong in (None, 0, 1, -1, True, False, "", "0", (0,), [0], {}, 2, 10 ** 39, *objects()):
                right = wrong is None if version is None else type(wrong) is int and wrong == version
                self.told(house, line[:at] + (wrong,) + line[at + 1:], None if right else at)

    def test_of_anything(self):
        house = notes(note(1, 1), get(1), keep=3)
        line = house.line()
        for thing in anything():
            self.told(house, thing, -1)
            for at in (0, 4, len(line) - 1):
                right = thing is None if line[at] is None else type(thing) is int and thing == line[at]
                self.told(house, line[:at] + (thing,) + line[at + 1:], None if right else at)

    def test_no_tuple_of_as_many(self):
        house = notes(get(0))
        line = house.line()
        for wrong in (line[:-1], line + (None,), line + (0,), list(line), (), [], None, line[0], (line,), {}, "", 0, dict(enumerate(line))):
            self.told(house, wrong, -1)

    def test_the_first_of_several(self):
        house = notes(get(0), 3, get(0))
        line = house.line()
        for places in itertools.combinations(range(len(line)), 2):
            wrong = list(line)
            for at in places:
                wrong[at] = 77
            self.told(house, tuple(wrong), min(places))

    def test_with_keep_0_that_of_just_then_alone(self):
        # The page of what isn't there is the same at all versions.
        house = notes(note(4, 1), note(4, 2), get(0, "/item/5"))
        self.last(house, (2,))
        house = notes(get(0, "/item/5"), note(4, 1), note(4, 2))
        self.told(house, house.line()[:-3] + (0, None, None), None)
        self.told(house, house.line()[:-3] + (1, None, None), 13)

    def test_until_a_moment_no_more_than_keep_ticks_ahead(self):
        # Version 0 is the store's until tick 2, version 1 until tick 5, version 2 from then on.
        for ticks, right in ((0, (0, 1, 2)), (1, (0, 1, 2)), (2, (1, 2)), (4, (1, 2)), (5, (2,)), (6, (2,))):
            house = notes(2, note(4, 1), 3, note(4, 2), ticks, get(0, "/item/5"), keep=4)
            self.last(house, right)
        house = notes(2, note(4, 1), 3, note(4, 2), 0, get(0, "/item/5"), keep=3)
        self.last(house, (0, 1, 2))
        house = notes(2, note(4, 1), 3, note(4, 2), 0, get(0, "/item/5"), keep=2)
        self.last(house, (1, 2))

    def test_versions_of_one_moment(self):
        entries = LOGINS + (put(CAT, 1, "pen", 5, 4), get(CAT), post(CAT, "/1/a/1", 2), 3, ("work", 5), 2, get(0, "/item/5"))
        self.last(house_with(*entries, keep=2), (1, 2, 3, 4, 5, 6))
        self.last(house_with(*entries, keep=1), (6,))
        self.last(house_with(*entries, keep=4), (1, 2, 3, 4, 5, 6))
        self.last(house_with(*entries, keep=5), (0, 1, 2, 3, 4, 5, 6))

    def test_versions_behind_the_get_are_none_of_it(self):
        house = notes(get(0, "/item/5"), note(4, 1), keep=9)
        line = house.line()
        self.told(house, line[:-2] + (1, None), 13)
        self.told(house, line[:-2] + (0, None), None)

    def test_not_less_than_behind_ones_own_post(self):
        for session, right in ((4, (2, 3)), (0, (3,)), (1, (3,)), (2, (3,))):
            house = notes(note(2, 1), note(4, 1), note(1, 1), get(session, "/item/5"), keep=9)
            self.last(house, right)
        # Of an asker who did nothing.
        house = house_with(*LOGINS, put(ANN, 1), put(BOB, 1), get(CAT, "/item/5"), keep=9)
        self.last(house, (0, 1, 2))

    def test_a_post_that_is_sent_again_counts(self):
        house = house_with(*LOGINS, put(ANN, 1), put(BOB, 1), get(ANN, "/item/5"), keep=9)
        self.last(house, (1, 2))
        house = house_with(*LOGINS, put(ANN, 1), put(BOB, 1), put(ANN, 1), get(ANN, "/item/5"), keep=9)
        self.last(house, (2,))

    def test_a_post_that_began_a_work_counts(self):
        entries = LOGINS + (put(CAT, 1), get(ANN), put(ANN, 1), get(CAT), post(CAT, "/item/1/sell", 2), get(CAT, "/item/5"))
        self.last(house_with(*entries, keep=9), (2,))

    def test_a_post_that_was_not_done_does_not(self):
        house = house_with(*LOGINS, put(ANN, 1), put(BOB, 1), put(ANN, 1, "ink"), post(ANN, "/nowhere", 1), get(ANN, "/item/5"), keep=9)
        self.last(house, (1, 2))

    def test_a_post_behind_the_get_does_not(self):
        house = notes(note(4, 1), get(0, "/item/5"), note(1, 1), keep=9)
        line = house.line()
        for version, wrong in ((0, None), (1, None), (2, 14)):
            self.told(house, line[:14] + (version, None), wrong)

    def test_another_session_of_the_same_asker(self):
        house = house_with(*LOGINS, ("come",), ("login", 7, "ann", "pw-1"), put(ANN, 1), put(BOB, 1), get(8, "/item/5"), keep=9)
        self.last(house, (1, 2))

    def test_the_page_as_of_it(self):
        # An item that is renamed away and back: the page is the same at versions 1 and 3.
        entries = LOGINS + (put(ANN, 1), get(ANN), get(ANN), post(ANN, "/item/1/name", 2, to="ink"), post(ANN, "/item/1/name", 3, to="pen"))
        self.last(house_with(*entries, get(0, "/item/1"), keep=9), (1, 3))
        self.last(house_with(*entries, get(BOB, "/item/1"), keep=9), (1, 3))
        self.last(house_with(*entries, get(ANN, "/item/1"), keep=9), (3,))
        self.last(house_with(*entries, get(0, "/item/1")), (3,))
        # Where it isn't there, no page is, either.
        self.last(house_with(*entries, get(0, "/item/2"), keep=9), (0, 1, 2, 3))

    def test_for_the_sessions_asker(self):
        # Nobody sees how many there are, bob does.
        entries = LOGINS + (put(ANN, 1), get(CAT), post(CAT, "/item/1/many", 2, many=9))
        self.last(house_with(*entries, get(0, "/item/1"), keep=9), (1, 2))
        self.last(house_with(*entries, get(BOB, "/item/1"), keep=9), (2,))

    def test_a_session_that_ended_since(self):
        house = house_with(*LOGINS, put(BOB, 1), get(ANN, "/item/1"), ("logout", ANN), ("login", BOB, "cat", "-"), 60, get(ANN), keep=9)
        self.told(house, house.line(), None)

    def test_behind_undo(self):
        house = notes(note(4, 1), get(0), keep=3)
        line = house.line()
        house.undo()
        self.told(house, line, -1)
        self.told(house, line[:-1], None)

    def test_by_name(self):
        house = notes(note(4, 1))
        self.assertIs(is_line(thing=house.line(), house=house), True)
        self.assertIsNone(first_wrong(thing=house.line(), house=house))
        self.assertEqual(plain_of(line=house.line(), house=house), house.answers())
        for action in (is_line, first_wrong, plain_of):
            with self.assertRaises(TypeError):
                action(house)

    def test_answers_of_a_plain_house(self):
        house = notes(note(4, 1), get(0), get(4, "/item/5"), ("work", 2), get(9), keep=9)
        self.assertEqual(plain_of(house, house.line()), house.answers())
        self.assertEqual(plain_of(house, house.line())[-4:], ((200, "<p/>", 0), (404, "", 0), (200, "", 0), (403, "", 0)))
        self.assertIs(type(plain_of(house, house.line())), tuple)


if __name__ == "__main__":
    unittest.main()
