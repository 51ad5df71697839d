"""6.6: pages that are kept for a while."""

import unittest

from tests.helper import LOGINS, SITE, get, house_with, post, put

ANN, BOB, CAT = 4, 5, 6


def names(answer):
    """Tell how many items a page of all shows."""
    return answer[1].count("<i ")


class Kept(unittest.TestCase):
    def test_just_keep_ticks_and_one_more(self):
        for keep in (1, 2, 10, 49):
            house = house_with(*LOGINS, get(0), put(ANN, 1), keep=keep, idle=1000)
            self.assertEqual(names(house.ask(get(BOB))), 0)
            house.wait(keep)
            self.assertEqual(house.ask(get(0)), (200, "<p/>", 0))
            self.assertEqual(house.ask(get(BOB)), (200, "<p>bob</p>", 3))
            house.wait(1)
            self.assertEqual(names(house.ask(get(0))), 1)
            self.assertEqual(house.ask(get(BOB))[2], 4)
            self.assertEqual(names(house.ask(get(BOB))), 1)

    def test_keep_0_keeps_nothing(self):
        house = house_with(*LOGINS, get(0), put(ANN, 1))
        for session in (0, ANN, BOB):
            self.assertEqual(names(house.ask(get(session))), 1)

    def test_since_it_was_made_not_since_it_was_told(self):
        house = house_with(*LOGINS, get(0), put(ANN, 1), 2, get(0), 2, keep=3)
        self.assertEqual(names(house.answers()[-2]), 0)
        self.assertEqual(names(house.ask(get(0))), 1)

    def test_made_anew_it_is_kept_anew(self):
        house = house_with(*LOGINS, get(0), 4, get(0), put(ANN, 1), 3, keep=3)
        self.assertEqual(names(house.ask(get(0))), 0)
        house.wait(1)
        self.assertEqual(names(house.ask(get(0))), 1)

    def test_none_is_kept_too(self):
        house = house_with(*LOGINS, get(0, "/item/1"), get(BOB, "/item/1"), put(ANN, 1), 2, keep=2)
        self.assertEqual(house.ask(get(0, "/item/1")), (404, "", 0))
        self.assertEqual(house.ask(get(BOB, "/item/1")), (404, "", 0))
        # ann never asked for it.
        self.assertEqual(house.ask(get(ANN, "/item/1"))[0], 200)
        house.wait(1)
        self.assertEqual(house.ask(get(0, "/item/1")), (200, '<i is="pen">/</i><n>1</n>', 0))
        self.assertEqual(house.ask(get(BOB, "/item/1"))[0], 200)

    def test_a_page_that_is_not_there_any_more(self):
        house = house_with(*LOGINS, put(ANN, 1), get(0, "/item/1"), get(ANN), post(ANN, "/item/1/drop", 2), keep=2)
        self.assertEqual(house.ask(get(0, "/item/1"))[0], 200)
        self.assertEqual(house.ask(get(ANN, "/item/1"))[0], 404)

    def test_of_the_same_path(self):
        house = house_with(*LOGINS, put(ANN, 1), get(0, "/item/1"), get(CAT, "/item/1"), post(CAT, "/item/1/name", 2, to="ink"), keep=9)
        self.assertEqual(house.ask(get(0, "/item/1"))[1], '<i is="pen">/</i><n>1</n>')
        self.assertEqual(house.ask(get(0, "/"))[1], '<p/><i to="/item/1">ink  </i>')

    def test_of_the_same_asker_by_whatever_session(self):
        house = house_with(*LOGINS, ("come",), ("come",), ("login", 7, "bob", "b0b"), put(ANN, 1), keep=9)
        # Sessions 5 and 9 are bob's, 8 and 0 nobody's.
        self.assertEqual(house.sessions(), ((4, "ann"), (5, "bob"), (6, "cat"), (8, None), (9, "bob")))
        self.assertEqual(house.ask(get(9)), (200, "<p>bob</p>", 1))
        self.assertEqual(names(house.ask(get(0))), 1)
        house.ask(get(ANN))
        house.ask(put(ANN, 2))
        self.assertEqual(names(house.ask(get(8))), 1)
        self.assertEqual(names(house.ask(get(9))), 0)
        self.assertEqual(names(house.ask(get(CAT))), 0)

    def test_not_behind_a_post_by_the_same_asker(self):
        house = house_with(*LOGINS, put(ANN, 1), keep=9)
        self.assertEqual(names(house.ask(get(ANN))), 1)
        self.assertEqual(names(house.ask(get(BOB))), 0)
        house.ask(put(BOB, 1))
        self.assertEqual(names(house.ask(get(BOB))), 2)
        self.assertEqual(names(house.ask(get(ANN))), 1)
        self.assertEqual(names(house.ask(get(CAT))), 0)

    def test_of_whatever_path_and_session(self):
        house = house_with(*LOGINS, ("come",), ("login", 7, "ann", "pw-1"), put(BOB, 1), get(ANN, "/item/1"), get(8), keep=9)
        self.assertEqual((house.answers()[-2][0], names(house.answers()[-1])), (200, 0))
        house.ask(put(8, 1))
        self.assertEqual(names(house.ask(get(ANN))), 2)
        self.assertEqual(house.ask(get(ANN, "/item/2"))[0], 200)

    def test_by_no_asker(self):
        house = house_with(("come",), ("come",), get(1), get(0, "/item/1"), post(1, "/note", 1, text="x"), keep=9)
        for session in (0, 1, 2):
            self.assertEqual(house.ask(get(session))[1], "<p/><q>x</q>")

    def test_behind_a_post_that_did_nothing(self):
        posts = (put(BOB, 1, name=""), post(BOB, "/nowhere", 1), post(BOB, "/item/1/drop", 1), put(BOB, 9), post(BOB, "/item/9/name", 1, to="x"))
        for request in posts:
            house = house_with(*LOGINS, put(ANN, 1), request, keep=9)
            self.assertNotEqual(house.answers()[-1][0], 303)
            self.assertEqual(names(house.ask(get(BOB))), 0, request)

    def test_behind_a_post_that_is_sent_again(self):
        # It is answered with 303 again, so the page is made again.
        house = house_with(*LOGINS, put(ANN, 1), get(ANN), put(BOB, 1), keep=9)
        self.assertEqual(names(house.ask(get(ANN))), 1)
        self.assertEqual(house.ask(put(ANN, 1)), (303, "/", 0))
        self.assertEqual(names(house.ask(get(ANN))), 2)

    def test_behind_a_work_that_began_and_went_on(self):
        house = house_with(*LOGINS, put(ANN, 1), get(ANN), get(ANN, "/item/1"), post(ANN, "/item/1/sell", 2), keep=9)
        self.assertEqual(house.ask(get(ANN, "/item/1"))[1], '<i is="pen">5/0</i><n>1</n>')
        house.work(2)
        self.assertEqual(house.ask(get(ANN, "/item/1"))[1], '<i is="pen">5/0</i><n>1</n>')
        self.assertEqual(house.ask(get(CAT, "/item/1"))[1], '<i is="pen">4/1</i><n>1</n>')

    def test_each_has_a_ticket_of_its_own(self):
        house = house_with(*LOGINS, keep=9)
        self.assertEqual([house.ask(get(ANN))[2] for _ in range(3)], [2, 3, 4])
        self.assertEqual(house.ask(put(ANN, 3)), (303, "/", 0))

    def test_behind_a_login_and_a_logout(self):
        house = house_with(*LOGINS, put(BOB, 1), ("logout", ANN), ("come",), ("login", 7, "ann", "pw-1"), keep=9)
        self.assertEqual(house.ask(get(8)), (200, "<p>ann</p>", 1))

    def test_the_most(self):
        house = house_with(*LOGINS, get(0), put(ANN, 1), 1000, keep=1000)
        self.assertEqual(names(house.ask(get(0))), 0)
        house.wait(1)
        self.assertEqual(names(house.ask(get(0))), 1)


class Line(unittest.TestCase):
    def test_the_version_at_which_it_was_made(self):
        house = house_with(*LOGINS, get(0), put(ANN, 1), get(0), get(ANN), get(0, "/item/9"), get(9), 9, get(0), put(BOB, 1), get(BOB), get(ANN), keep=9)
        self.assertEqual(house.line(), (None,) * 6 + (0, 0, 0, 0, None, 0, 1, 1, None, None, 0, None, 2, 1))

    def test_with_keep_0_that_of_just_then(self):
        house = house_with(*LOGINS, get(0), put(ANN, 1), get(0), get(0, "/item/9"), put(BOB, 1), get(ANN), post(ANN, "/item/1/sell", 2), ("work", 2),
                           get(ANN), site=SITE)
        self.assertEqual(house.line(), (None,) * 6 + (0, 0, 0, 0, None, 1, 1, None, 2, None, None, 4))


if __name__ == "__main__":
    unittest.main()
