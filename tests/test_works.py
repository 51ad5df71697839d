"""6.5: works, step by step, that end done or undone."""

import unittest

from doorhouse.house import House
from tests.helper import LOGINS, SITE, get, house_with, post, put

ANN, BOB, CAT = 4, 5, 6


def worked(*items, site=None):
    """Tell a house with these items, (many, sold) each, and a ticket for each of them and some more for cat."""
    entries = list(LOGINS) + [get(CAT) for _ in range(15)]
    entries += [put(CAT, at + 1, "x", many, sold) for at, (many, sold) in enumerate(items)]
    return house_with(*entries, site=site)


def begin(house, work, number):
    """Begin a work of an item by cat, with a ticket that wasn't used."""
    ticket = house.ask(get(CAT))[2]
    path = f"/item/{number}/sell" if work == "sell" else f"/0/x/{number}"
    return house.ask(post(CAT, path, ticket))[0]


def rows(house):
    """Tell (many, sold) of each item."""
    return [thing[3][1:] for thing in house.store().things()]


def words(house):
    return [word for name, number, word in house.works()]


class Done(unittest.TestCase):
    def test_step_by_step(self):
        # sell: sold 1, many -1; pack: many -2, sold 5, many -3, sold -9, many 0.
        house = worked((5, 4))
        begin(house, "pack", 1)
        self.assertEqual(house.works(), (("pack", 1, "waits"),))
        for many, sold, word in ((3, 4, "goes"), (3, 9, "goes"), (0, 9, "goes"), (0, 0, "goes"), (0, 0, "done")):
            version = house.store().version()
            self.assertEqual(house.work(1), 1)
            self.assertEqual((rows(house), words(house)), ([(many, sold)], [word]))
            self.assertEqual(house.store().version(), version + 1)
        self.assertEqual(house.work(1), 0)
        self.assertEqual(house.works(), (("pack", 1, "done"),))

    def test_many_at_once(self):
        for many, told, word in ((0, 0, "waits"), (1, 1, "goes"), (4, 4, "goes"), (5, 5, "done"), (6, 5, "done"), (1000, 5, "done")):
            house = worked((5, 4))
            begin(house, "pack", 1)
            version = house.store().version()
            self.assertEqual(house.work(many), told)
            self.assertEqual((words(house), house.store().version()), ([word], version + told))

    def test_each_step_is_a_version(self):
        house = worked((5, 4))
        begin(house, "pack", 1)
        house.work(5)
        store = house.store()
        versions = [store.as_of(version)[0][3][1:] for version in range(1, store.version() + 1)]
        self.assertEqual(versions, [(5, 4), (3, 4), (3, 9), (0, 9), (0, 0), (0, 0)])

    def test_the_first_one_first(self):
        house = worked((5, 4), (3, 3))
        begin(house, "sell", 2)
        begin(house, "pack", 1)
        self.assertEqual(house.works(), (("sell", 2, "waits"), ("pack", 1, "waits")))
        self.assertEqual((house.work(1), words(house)), (1, ["goes", "waits"]))
        self.assertEqual((house.work(1), words(house)), (1, ["done", "waits"]))
        self.assertEqual((house.work(1), words(house), rows(house)), (1, ["done", "goes"], [(3, 4), (2, 4)]))
        self.assertEqual((house.work(9), words(house)), (4, ["done", "done"]))

    def test_over_several(self):
        house = worked((5, 4), (3, 3), (1, 0))
        for number in (3, 2, 1):
            begin(house, "sell", number)
        self.assertEqual((house.work(3), words(house), rows(house)), (3, ["done", "goes", "waits"], [(5, 4), (3, 4), (0, 1)]))
        self.assertEqual((house.work(10), words(house), rows(house)), (3, ["done"] * 3, [(4, 5), (2, 4), (0, 1)]))

    def test_nothing_to_do(self):
        house = House(SITE)
        self.assertEqual([house.work(), house.work(0), house.work(1000)], [0, 0, 0])
        self.assertEqual(house.answers(), ((200, "", 0),) * 3)

    def test_one_step_where_it_is_left_out(self):
        house = worked((5, 4))
        begin(house, "pack", 1)
        self.assertEqual((house.work(), house.work(many=2), rows(house)), (1, 2, [(0, 9)]))
        self.assertEqual(house.log()[-2:], (("work", 1), ("work", 2)))
        self.assertEqual(house.answers()[-2:], ((200, "", 1), (200, "", 2)))

    def test_the_same_thing_again_behind_its_end(self):
        house = worked((5, 4))
        for at in range(3):
            self.assertEqual(begin(house, "sell", 1), 303)
            self.assertEqual(begin(house, "sell", 1), 409)
            self.assertEqual(house.work(2), 2)
        self.assertEqual((rows(house), house.works()), ([(2, 7)], (("sell", 1, "done"),) * 3))


class Undone(unittest.TestCase):
    def test_at_once(self):
        # The first step of pack takes 2 of many.
        for many in (0, 1):
            house = worked((many, 4))
            begin(house, "pack", 1)
            version = house.store().version()
            self.assertEqual(house.work(0), 0)
            self.assertEqual(words(house), ["waits"])
            self.assertEqual(house.work(1), 0)
            self.assertEqual((words(house), rows(house), house.store().version()), (["undone"], [(many, 4)], version))

    def test_at_once_and_the_next_one_is_taken(self):
        house = worked((0, 4), (1, 4), (5, 4))
        for number in (1, 2, 3):
            begin(house, "pack", number)
        self.assertEqual((house.work(1), words(house), rows(house)), (1, ["undone", "undone", "goes"], [(0, 4), (1, 4), (3, 4)]))

    def test_behind_some_steps(self):
        # sold -9 can't be done of 3 + 5, when many -2, sold 5 and many -3 were.
        house = worked((7, 3))
        begin(house, "pack", 1)
        self.assertEqual((house.work(3), words(house), rows(house)), (3, ["goes"], [(2, 8)]))
        for many, sold, word in ((5, 8, "undoes"), (5, 3, "undoes"), (7, 3, "undone")):
            version = house.store().version()
            self.assertEqual((house.work(1), words(house), rows(house)), (1, [word], [(many, sold)]))
            self.assertEqual(house.store().version(), version + 1)
        self.assertEqual(house.work(1), 0)

    def test_behind_one_step(self):
        house = worked((0, 5))
        begin(house, "sell", 1)
        self.assertEqual((house.work(1), words(house), rows(house)), (1, ["goes"], [(0, 6)]))
        self.assertEqual((house.work(1), words(house), rows(house)), (1, ["undone"], [(0, 5)]))

    def test_many_at_once(self):
        for many, told, word in ((3, 3, "goes"), (4, 4, "undoes"), (5, 5, "undoes"), (6, 6, "undone"), (7, 6, "undone"), (1000, 6, "undone")):
            house = worked((7, 3))
            begin(house, "pack", 1)
            self.assertEqual((house.work(many), words(house)), (told, [word]))

    def test_and_the_next_one_goes_on(self):
        house = worked((7, 3), (2, 2))
        begin(house, "pack", 1)
        begin(house, "sell", 2)
        self.assertEqual((house.work(7), words(house), rows(house)), (7, ["undone", "goes"], [(7, 3), (2, 3)]))

    def test_all_or_nothing_of_each(self):
        for many in range(12):
            for sold in (0, 3, 4, 9998, 9999):
                for work in ("sell", "pack"):
                    house = worked((many, sold))
                    begin(house, work, 1)
                    house.work(1000)
                    word = words(house)[0]
                    self.assertIn(word, ("done", "undone"))
                    by = ((-1, 1) if work == "sell" else (-5, -4)) if word == "done" else (0, 0)
                    self.assertEqual(rows(house), [(many + by[0], sold + by[1])])
                    self.assertIs(word == "done", (many >= 1 and sold < 9999) if work == "sell" else (many >= 5 and 4 <= sold <= 9994))

    def test_above_the_most(self):
        house = worked((5, 9999))
        begin(house, "sell", 1)
        self.assertEqual((house.work(1), words(house), rows(house)), (0, ["undone"], [(5, 9999)]))

    def test_it_holds_until_it_is_undone(self):
        house = worked((7, 3))
        begin(house, "pack", 1)
        for many in (3, 1, 1):
            house.work(many)
            self.assertEqual(begin(house, "sell", 1), 409)
        house.work(1)
        self.assertEqual(begin(house, "sell", 1), 303)
        self.assertEqual(house.works(), (("pack", 1, "undone"), ("sell", 1, "waits")))

    def test_steps_of_nothing(self):
        site = dict(SITE, works=(("sell", "item", (("many", 0),)), SITE["works"][1]))
        house = worked((0, 0), site=site)
        begin(house, "sell", 1)
        self.assertEqual((house.work(3), words(house), rows(house)), (1, ["done"], [(0, 0)]))


if __name__ == "__main__":
    unittest.main()
