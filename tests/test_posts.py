"""6.4: what a post is answered with, in which order, and what it does."""

import itertools
import unittest

from doorhouse.house import House
from tests.helper import LOGINS, SITE, get, house_with, post, put, shown

ANN, BOB, CAT = 4, 5, 6
DENIED, ABSENT, TAKEN = (403, "", 0), (404, "", 0), (409, "", 0)


def items(house):
    return [thing for thing in house.store().things() if thing[0] == "item"]


def with_item(*more, owner=ANN, **values):
    """Tell a house with an item of ann's, and a ticket 2 for each of the three."""
    return house_with(*LOGINS, put(owner, 1, **values), get(ANN), get(BOB), get(CAT), *more)


class Deeds(unittest.TestCase):
    def test_add(self):
        house = house_with(*LOGINS)
        self.assertEqual(house.ask(put(ANN, 1, "pen", 5, 0)), (303, "/", 0))
        self.assertEqual(house.ask(put(BOB, 1, "ink", 99, 9999)), (303, "/", 0))
        self.assertEqual(items(house), [("item", 1, "ann", ("pen", 5, 0)), ("item", 2, "bob", ("ink", 99, 9999))])
        self.assertEqual(house.store().version(), 2)

    def test_add_by_no_asker(self):
        house = house_with(("come",), get(1))
        self.assertEqual(house.ask(post(1, "/note", 1, text="x")), (303, "/", 0))
        self.assertEqual(house.store().things(), (("note", 1, "", ("x",)),))

    def test_add_in_whatever_order_the_values_stand(self):
        house = house_with(*LOGINS)
        house.ask(("post", ANN, "/item", 1, {"sold": 1, "many": 2, "name": "x"}))
        self.assertEqual(items(house), [("item", 1, "ann", ("x", 2, 1))])

    def test_change(self):
        house = with_item()
        self.assertEqual(house.ask(post(ANN, "/item/1/name", 2, to="ink")), (303, "/item/1", 0))
        self.assertEqual(items(house), [("item", 1, "ann", ("ink", 5, 0))])
        self.assertEqual(house.ask(post(BOB, "/item/1/many", 2, many=9)), (303, "/item/1", 0))
        self.assertEqual(items(house), [("item", 1, "ann", ("ink", 9, 0))])
        self.assertEqual(house.store().version(), 3)

    def test_remove(self):
        house = with_item()
        self.assertEqual(house.ask(post(ANN, "/item/1/drop", 2)), (303, "/", 0))
        self.assertEqual((items(house), house.store().version()), ([], 2))
        self.assertEqual(house.ask(get(ANN)), (200, "<p>ann</p>", 3))
        house.ask(put(ANN, 3))
        self.assertEqual(items(house), [("item", 2, "ann", ("pen", 5, 0))])

    def test_a_work_begins(self):
        house = with_item()
        before = house.store()
        self.assertEqual(house.ask(post(ANN, "/item/1/sell", 2)), (303, "/item/1", 0))
        self.assertEqual((house.works(), house.store()), ((("sell", 1, "waits"),), before))

    def test_next_has_the_values_of_the_route(self):
        house = house_with(*LOGINS, put(ANN, 1), put(BOB, 1), get(CAT))
        self.assertEqual(house.ask(post(CAT, "/7/word-9/2", 1)), (303, "/pair/7/word-9/2", 0))
        self.assertEqual(house.works(), (("pack", 2, "waits"),))
        self.assertEqual(house.ask(post(CAT, "/0/0/1", 2)), (303, "/pair/0/0/1", 0))

    def test_next_in_another_order_and_with_fewer_holes(self):
        routes = (("some", "get", "/{b}/x/{a:n}"), ("less", "get", "/{b}"), ("do", "post", "/{a:n}/{b}/{c:n}"), ("redo", "post", "/{c:n}/{b}"))
        site = dict(SITE, routes=routes, pages=(("some", "", ()), ("less", "", ())), rules=(("all", "add", "note", ""),), forms=(
            ("do", (("text", "text", 0, 9),), ("add", "note"), "some"), ("redo", (("text", "text", 0, 9),), ("add", "note"), "less")))
        house = house_with(("come",), get(1, "/b"), get(1, "/b"), site=site)
        self.assertEqual(house.ask(post(1, "/5/w/8", 1, text="")), (303, "/w/x/5", 0))
        self.assertEqual(house.ask(post(1, "/5/8", 2, text="")), (303, "/8", 0))

    def test_two_are_two(self):
        house = house_with(*LOGINS, get(ANN))
        house.ask(put(ANN, 1))
        house.ask(put(ANN, 2))
        self.assertEqual(items(house), [("item", 1, "ann", ("pen", 5, 0)), ("item", 2, "ann", ("pen", 5, 0))])


class Tickets(unittest.TestCase):
    def test_not_given(self):
        house = house_with(*LOGINS)
        for ticket in (0, 2, 3, 99, 10 ** 39):
            self.assertEqual(house.ask(put(ANN, ticket)), DENIED)
        self.assertEqual(house.store().version(), 0)
        # Given to another session, and of a page that wasn't there.
        house = house_with(("come",), ("come",), get(1), get(2, "/nowhere"))
        self.assertEqual(house.ask(post(2, "/note", 1, text="x")), DENIED)
        self.assertEqual(house.ask(post(1, "/note", 1, text="x")), (303, "/", 0))

    def test_tickets_of_the_session_ahead_of_a_login(self):
        house = house_with(("come",), get(1), ("login", 1, "ann", "pw-1"))
        self.assertEqual(house.ask(post(2, "/note", 1, text="x")), DENIED)
        self.assertEqual(house.ask(post(1, "/note", 1, text="x")), DENIED)

    def test_used_with_the_same(self):
        house = house_with(*LOGINS)
        first = house.ask(put(ANN, 1))
        store = house.store()
        for _ in range(3):
            self.assertEqual(house.ask(put(ANN, 1)), first)
            house.wait(1)
        self.assertEqual(house.ask(("post", ANN, "/item", 1, {"sold": 0, "many": 5, "name": "pen"})), first)
        self.assertEqual((first, house.store()), ((303, "/", 0), store))

    def test_used_with_others(self):
        house = house_with(*LOGINS, put(ANN, 1))
        store = house.store()
        for request in (
            put(ANN, 1, "ink"), put(ANN, 1, many=6), put(ANN, 1, name=""), post(ANN, "/item", 1), post(ANN, "/item", 1, name="pen", many=5),
            post(ANN, "/note", 1, name="pen", many=5, sold=0), post(ANN, "/note", 1, text="x"), post(ANN, "/item/1/name", 1, to="x"),
            post(ANN, "/item/9/drop", 1), put(ANN, 1, many="5"), post(ANN, "/item", 1, name="pen", many=5, sold=0, more=1),
        ):
            self.assertEqual(house.ask(request), TAKEN, request)
        self.assertEqual(house.store(), store)
        self.assertEqual(house.ask(put(ANN, 1)), (303, "/", 0))

    def test_used_and_no_route(self):
        house = house_with(*LOGINS, put(ANN, 1))
        self.assertEqual(house.ask(post(ANN, "/nowhere", 1, name="pen", many=5, sold=0)), ABSENT)

    def test_the_same_again_where_it_could_not_be_done_any_more(self):
        house = with_item(post(ANN, "/item/1/drop", 2))
        self.assertEqual(house.ask(post(ANN, "/item/1/drop", 2)), (303, "/", 0))
        house = with_item(post(ANN, "/item/1/sell", 2))
        self.assertEqual(house.ask(post(ANN, "/item/1/sell", 2)), (303, "/item/1", 0))
        self.assertEqual(house.works(), (("sell", 1, "waits"),))
        house.work(9)
        self.assertEqual(house.ask(post(ANN, "/item/1/sell", 2)), (303, "/item/1", 0))
        self.assertEqual(house.works(), (("sell", 1, "done"),))

    def test_not_used_by_what_was_answered_otherwise(self):
        house = with_item(owner=BOB)
        for request in (post(ANN, "/nowhere", 2), put(ANN, 2, name=""), post(ANN, "/item/1/drop", 2), post(ANN, "/item/9/drop", 2)):
            self.assertNotEqual(house.ask(request)[0], 303)
        self.assertEqual(house.ask(put(ANN, 2)), (303, "/", 0))

    def test_not_used_by_another_session(self):
        house = house_with(("come",), ("come",), get(1), get(2), post(1, "/note", 1, text="x"))
        self.assertEqual(house.ask(post(2, "/note", 1, text="x")), (303, "/", 0))
        self.assertEqual(len(house.store()), 2)

    def test_each_of_several_tickets_by_itself(self):
        house = house_with(("come",), get(1), get(1), get(1), post(1, "/note", 2, text="b"), post(1, "/note", 1, text="a"))
        self.assertEqual(house.ask(post(1, "/note", 2, text="b")), (303, "/", 0))
        self.assertEqual(house.ask(post(1, "/note", 1, text="b")), TAKEN)
        self.assertEqual(house.ask(post(1, "/note", 3, text="b")), (303, "/", 0))
        self.assertEqual([thing[3] for thing in house.store().things()], [("b",), ("a",), ("b",)])


class WrongValues(unittest.TestCase):
    def test_add(self):
        house = house_with(*LOGINS)
        right = {"name": "pen", "many": 5, "sold": 0}
        for values, name in (
            ({}, "name"), ({"name": ""}, "name"), ({"name": "a" * 13}, "name"), ({"name": 5}, "name"), ({"many": 100}, "many"), ({"many": "5"}, "many"),
            ({"many": ""}, "many"), ({"sold": "x"}, "sold"), ({"other": 1}, ""), ({"no": 1}, ""), ({"sold": "x", "many": 100}, "many"),
            ({"other": 1, "sold": ""}, "sold"), ({"name": "", "many": 100, "sold": ""}, "name"), ({"a": 1, "zz": 2}, ""),
        ):
            values = {**right, **values} if values else {}
            self.assertEqual(house.ask(("post", ANN, "/item", 1, values)), (400, name, 0), values)
        for lacks in itertools.product((True, False), repeat=3):
            values = {name: right[name] for name, lack in zip(right, lacks) if not lack}
            if True in lacks:
                name = list(right)[lacks.index(True)]
                self.assertEqual(house.ask(("post", ANN, "/item", 1, values)), (400, name, 0))
                self.assertEqual(house.ask(("post", ANN, "/item", 1, {"aa": 1, **values})), (400, name, 0))
        self.assertEqual(house.store().version(), 0)

    def test_least_and_most(self):
        for name, many, told in (
            ("a", 0, 303), ("a" * 12, 99, 303), ("a" * 13, 0, 400), ("", 0, 400), ("a", 100, 400), (" ", 9, 303), ("a", 9999, 400),
        ):
            house = house_with(*LOGINS)
            self.assertEqual(house.ask(put(ANN, 1, name, many))[0], told, (name, many))
        for many, told in ((1, (400, "many", 0)), (2, (303, "/item/1", 0)), (9, (303, "/item/1", 0)), (10, (400, "many", 0)), (0, (400, "many", 0))):
            house = with_item()
            self.assertEqual(house.ask(post(BOB, "/item/1/many", 2, many=many)), told)
        for text, told in (("", 303), ("x" * 20, 303), ("x" * 21, 400)):
            house = house_with(("come",), get(1))
            self.assertEqual(house.ask(post(1, "/note", 1, text=text))[0], told)

    def test_change(self):
        house = with_item()
        for values, name in (({}, "to"), ({"name": "x"}, "to"), ({"to": 5}, "to"), ({"to": "x", "name": "x"}, ""), ({"to": 5, "name": "x"}, "to")):
            self.assertEqual(house.ask(("post", ANN, "/item/1/name", 2, values)), (400, name, 0))

    def test_remove_and_work(self):
        house = with_item()
        for path in ("/item/1/drop", "/item/1/sell"):
            self.assertEqual(house.ask(post(ANN, path, 2, x=1)), (400, "", 0))
            self.assertEqual(house.ask(post(ANN, path, 2, no=1, name="x")), (400, "", 0))

    def test_a_least_that_is_the_most(self):
        site = dict(SITE, forms=SITE["forms"][:-1] + (("count", (("many", "number", 5, 5),), ("change", "item", "no", "many"), "item"),))
        house = house_with(*LOGINS, put(ANN, 1), get(BOB), site=site)
        for many, code in ((4, 400), (6, 400), (5, 303)):
            self.assertEqual(house.ask(post(BOB, "/item/1/many", 2, many=many))[0], code)


class NotLet(unittest.TestCase):
    def test_add(self):
        house = house_with(("come",), get(1))
        self.assertEqual(house.ask(put(1, 1)), ABSENT)
        self.assertEqual(house.store().version(), 0)

    def test_add_of_ones_own(self):
        site = dict(SITE, rules=(("own", "add", "note", ""), ("all", "add", "item", "name")))
        house = house_with(*LOGINS, ("come",), get(7), site=site)
        self.assertEqual(house.ask(post(ANN, "/note", 1, text="x")), (303, "/", 0))
        self.assertEqual(house.ask(post(7, "/note", 1, text="x")), ABSENT)
        # Of the field "" a rule of one field is none.
        self.assertEqual(house.ask(put(BOB, 1)), ABSENT)

    def test_change(self):
        house = with_item(("come",), get(7))
        for session, ticket, path, values in ((BOB, 2, "/item/1/name", {"to": "x"}), (7, 1, "/item/1/name", {"to": "x"}),
                                              (ANN, 2, "/item/1/many", {"many": 5}), (7, 1, "/item/1/many", {"many": 5})):
            self.assertEqual(house.ask(("post", session, path, ticket, values)), ABSENT)
        self.assertEqual(house.store().version(), 1)
        self.assertEqual(house.ask(post(CAT, "/item/1/name", 2, to="x")), (303, "/item/1", 0))

    def test_remove(self):
        house = with_item(("come",), get(7))
        for session, ticket in ((BOB, 2), (CAT, 2), (7, 1)):
            self.assertEqual(house.ask(post(session, "/item/1/drop", ticket)), ABSENT)
        self.assertEqual(house.ask(post(ANN, "/item/1/drop", 2)), (303, "/", 0))

    def test_remove_by_a_rule_of_all_fields_alone(self):
        site = dict(SITE, rules=(("known", "add", "item", ""), ("all", "remove", "item", "name")))
        house = house_with(*LOGINS, put(ANN, 1), get(ANN), site=site)
        self.assertEqual(house.ask(post(ANN, "/item/1/drop", 2)), ABSENT)

    def test_work_by_the_first_steps_field(self):
        # sell begins with "sold", which ann may change of her own; pack with "many", which a clerk may.
        house = with_item(("come",), get(7))
        for session, ticket, path in ((BOB, 2, "/item/1/sell"), (ANN, 2, "/1/a/1"), (7, 1, "/item/1/sell"), (7, 1, "/1/a/1")):
            self.assertEqual(house.ask(post(session, path, ticket)), ABSENT)
        self.assertEqual(house.works(), ())
        for session, path in ((ANN, "/item/1/sell"), (BOB, "/1/a/1"), (CAT, "/item/1/sell"), (CAT, "/1/a/1")):
            self.assertEqual(house.twin().ask(post(session, path, 2))[0], 303)

    def test_no_such_thing(self):
        house = with_item()
        for path, values in (("/item/2/name", {"to": "x"}), ("/item/0/name", {"to": "x"}), ("/item/2/drop", {}), ("/item/2/sell", {}),
                             ("/1/a/2", {}), ("/item/9999/drop", {}), ("/item/2/many", {"many": 5})):
            self.assertEqual(house.ask(("post", CAT, path, 2, values)), ABSENT)

    def test_a_thing_that_was_there(self):
        house = with_item(post(ANN, "/item/1/drop", 2), get(ANN))
        self.assertEqual(house.ask(post(ANN, "/item/1/name", 3, to="x")), ABSENT)

    def test_of_another_kind(self):
        house = house_with(("come",), get(1), post(1, "/note", 1, text="x"), *LOGINS[:3], ("login", 4, "cat", "-"), get(5))
        self.assertEqual(house.ask(post(5, "/item/1/name", 1, to="x")), ABSENT)


class Held(unittest.TestCase):
    def test_changed_removed_and_worked(self):
        for work in (post(ANN, "/item/1/sell", 2), post(BOB, "/7/x/1", 2)):
            house = with_item(work, get(ANN), get(BOB), get(CAT))
            for request in (post(ANN, "/item/1/name", 3, to="x"), post(BOB, "/item/1/many", 3, many=5), post(ANN, "/item/1/drop", 3),
                            post(ANN, "/item/1/sell", 3), post(BOB, "/7/x/1", 3), post(CAT, "/item/1/sell", 3)):
                self.assertEqual(house.ask(request), TAKEN, request)
            self.assertEqual((house.store().version(), len(house.works())), (1, 1))

    def test_others_are_not_held(self):
        house = with_item(post(ANN, "/item/1/sell", 2), get(ANN), put(ANN, 3), get(ANN))
        self.assertEqual(house.ask(post(ANN, "/item/2/name", 4, to="x")), (303, "/item/2", 0))
        # A note of the same number isn't, either.
        house.ask(get(ANN))
        self.assertEqual(house.ask(post(ANN, "/note", 5, text="x")), (303, "/", 0))

    def test_until_it_ends(self):
        house = with_item(post(ANN, "/item/1/sell", 2), ("work", 1), get(ANN))
        rename = post(ANN, "/item/1/name", 3, to="x")
        self.assertEqual(house.ask(rename), TAKEN)
        house.work(1)
        self.assertEqual(house.works(), (("sell", 1, "done"),))
        self.assertEqual(house.ask(rename), (303, "/item/1", 0))

    def test_the_ticket_is_not_used(self):
        house = with_item(post(ANN, "/item/1/sell", 2), get(ANN), post(ANN, "/item/1/drop", 3))
        self.assertEqual(house.answers()[-1], TAKEN)
        self.assertEqual(house.ask(put(ANN, 3)), (303, "/", 0))

    def test_kinds_of_the_same_number(self):
        site = dict(SITE, rules=(("all", "add", "note", ""), ("all", "add", "item", ""), ("all", "change", "item", ""), ("all", "remove", "note", "")),
                    forms=SITE["forms"][:2] + (("drop", (), ("remove", "note", "no"), "home"),) + SITE["forms"][3:])
        house = house_with(("come",), get(1), get(1), get(1), get(1), put(1, 1), post(1, "/note", 2, text="x"), post(1, "/item/1/sell", 3), site=site)
        self.assertEqual(house.works(), (("sell", 1, "waits"),))
        self.assertEqual(house.ask(post(1, "/item/1/drop", 4)), (303, "/", 0))
        self.assertEqual([thing[0] for thing in house.store().things()], ["item"])


class Order(unittest.TestCase):
    """Of several answers the first that is due, from a request that has all that could be wrong to a right one."""

    def test_in_the_documents_order(self):
        house = with_item(post(ANN, "/item/1/sell", 2), get(ANN), put(ANN, 3), put(BOB, 2), get(ANN), get(BOB))
        for request, told in (
            # No session, ahead of no route.
            (post(9, "/nowhere", 99, x=1), DENIED),
            # No route, ahead of a ticket that was not given.
            (post(ANN, "/nowhere", 99, x=1), ABSENT),
            # That ahead of wrong values.
            (post(ANN, "/item/9/name", 99, x=1), DENIED),
            # A used one ahead of these, too.
            (post(ANN, "/item/9/name", 3, x=1), TAKEN),
            # Wrong values ahead of no thing, ahead of what isn't let, and ahead of a thing that is held.
            (post(ANN, "/item/9/name", 4, x=1), (400, "to", 0)),
            (post(BOB, "/item/1/name", 3, x=1), (400, "to", 0)),
            (post(ANN, "/item/1/name", 4, x=1), (400, "to", 0)),
            # What isn't let ahead of a thing that is held.
            (post(BOB, "/item/1/name", 3, to="x"), ABSENT),
            (post(ANN, "/item/1/name", 4, to="x"), TAKEN),
            (post(ANN, "/item/2/name", 4, to="x"), (303, "/item/2", 0)),
        ):
            self.assertEqual(house.ask(request), told, request)

    def test_what_is_not_done_changes_no_more_than_the_log(self):
        house = with_item(post(ANN, "/item/1/sell", 2), get(ANN), get(BOB))
        before = shown(house)
        for request in (post(9, "/item", 1), post(ANN, "/nowhere", 3), post(ANN, "/item", 99), post(ANN, "/item", 2), post(ANN, "/item", 3),
                        post(BOB, "/item/1/name", 3, to="x"), post(ANN, "/item/1/name", 3, to="x")):
            self.assertNotEqual(house.ask(request)[0], 303)
        after = shown(house)
        for name in ("now", "versions", "sessions", "works"):
            self.assertEqual(after[name], before[name])
        self.assertEqual((len(after["log"]), after["line"]), (len(before["log"]) + 7, before["line"] + (None,) * 7))

    def test_answers_are_tuples(self):
        house = House(SITE)
        for request in (("come",), get(1), post(1, "/note", 1, text="x"), post(1, "/note", 1, text="x"), post(1, "/note", 1), ("logout", 1)):
            answer = house.ask(request)
            self.assertEqual([type(answer)] + [type(part) for part in answer], [tuple, int, str, int])


if __name__ == "__main__":
    unittest.main()
