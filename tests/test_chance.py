"""0.1 and 6.1 to 7.2 over logs by chance: a house held against one that is said once more, from its whole history."""

import random
import unittest

from doorhouse.errors import NoLine
from doorhouse.house import House, house_of
from doorhouse.lines import first_wrong, is_line, plain_of
from doorhouse.pages import page_of
from tests.helper import LOGINS, SITE, post, put, refuses, shown

PEOPLE = {name: (word, (name, roles)) for name, word, roles in SITE["people"]}
WORKS = {name: steps for name, kind, steps in SITE["works"]}
FIELDS = ("name", "many", "sold")
FIRST = LOGINS + (put(4, 1, "pen", 1, 4), put(5, 1, "ink", 7, 3), put(6, 1, "cap", 5, 4))


class Telling:
    """A house said a second time: nothing is kept up but what happened, and each answer is looked up in that."""

    def __init__(self, keep, idle):
        self.keep, self.idle = keep, idle
        self.now = 0
        self.states = [()]
        self.given = {"item": 0, "note": 0}
        # Of each entry: the entry, its moment, its answer, its session where it held, its asker, version behind, page's version.
        self.rows = []
        # Of each work that began: its name, its thing's number, what was done of it, by steps and undoings, and its end.
        self.works = []

    def asker_of(self, number):
        """Tell the tuple (asker,) of a session that holds, None of one that doesn't."""
        last, asker = None, None
        for entry, moment, answer, session, who, _, _ in self.rows:
            begins = entry[0] == "come" or entry[0] == "login" and answer[0] == 200
            if begins and answer[2] == number:
                last, asker = moment, PEOPLE[entry[2]][1] if entry[0] == "login" else None
            elif session == number and number > 0:
                last = moment
                if entry[0] == "logout" or entry[0] == "login" and answer[0] == 200:
                    return None
        return None if last is None or self.now - last > self.idle else (asker,)

    def happened(self, entry):
        version, session, asker = None, None, None
        if entry[0] == "wait":
            self.now += entry[1]
            answer = (200, "", 0)
        elif entry[0] == "work":
            answer = (200, "", self.worked(entry[1]))
        elif entry[0] == "come":
            answer = (200, "", self.next_session())
        elif entry[:2] == ("get", 0):
            answer, version = self.got(0, None, entry[2])
        elif self.asker_of(entry[1]) is None:
            answer = (403, "", 0)
        else:
            session, (asker,) = entry[1], self.asker_of(entry[1])
            if entry[0] == "get":
                answer, version = self.got(session, asker, entry[2])
            elif entry[0] == "post":
                answer = self.posted(session, asker, entry[2:])
            elif entry[0] == "logout":
                answer = (200, "", 0)
            else:
                right = PEOPLE.get(entry[2], ("", None))[0] == entry[3]
                answer = (200, "", self.next_session()) if right else (403, "", 0)
        self.rows.append((entry, self.now, answer, session, asker, len(self.states) - 1, version))
        return answer

    def next_session(self):
        return 1 + len([1 for entry, _, answer, *_ in self.rows if entry[0] == "come" or entry[0] == "login" and answer[0] == 200])

    def got(self, session, asker, path):
        page, version = page_of(SITE, asker, self.states[-1], path), len(self.states) - 1
        moments = [row[1] for row in self.rows]
        # The last of such pages that was made, which is one whose version was just then's, or that wasn't kept.
        made = None
        for at, (entry, moment, answer, _, who, behind, shows) in enumerate(self.rows):
            if entry[0] == "post" and answer[0] == 303 and who == asker:
                made = None
            elif entry[0] == "get" and entry[2] == path and shows is not None and who == asker:
                if made is None or moment - moments[made] > self.keep:
                    made = at
        if self.keep and made is not None and self.now - moments[made] <= self.keep:
            answer, version = self.rows[made][2], self.rows[made][6]
            page = answer[1] if answer[0] == 200 else None
        if page is None:
            return (404, "", 0), version
        tickets = len([1 for row in self.rows if row[3] == session and row[0][0] == "get" and row[2][0] == 200])
        return (200, page, tickets + 1 if session else 0), version

    def posted(self, session, asker, rest):
        path, ticket, values = rest
        words = path.split("/")[1:]
        if words in (["item"], ["note"]):
            deed, number = ("put" if words == ["item"] else "write"), None
        elif len(words) == 3 and words[0] == "item" and words[2] in ("name", "drop", "sell", "many") and words[1].isdigit():
            deed, number = words[2], int(words[1])
        elif len(words) == 3 and words[0].isdigit() and words[2].isdigit():
            deed, number = "pack", int(words[2])
        else:
            return (404, "", 0)
        if ticket not in [row[2][2] for row in self.rows if row[3] == session and row[0][0] == "get" and row[2][0] == 200]:
            return (403, "", 0)
        for entry, _, answer, own, *_ in self.rows:
            if own == session and entry[0] == "post" and entry[3] == ticket and answer[0] == 303:
                return answer if entry[2:] == rest else (409, "", 0)
        return self.sent(asker, deed, number, path, values)

    def sent(self, asker, deed, number, path, values):
        due = {
            "put": (("name", str, 1, 12), ("many", int, 0, 99), ("sold", int, 0, 9999)), "write": (("text", str, 0, 20),), "name": (("to", str, 0, 40),),
            "many": (("many", int, 2, 9),),
        }.get(deed, ())
        for name, kind, least, most in due:
            value = values.get(name)
            if type(value) is not kind or not least <= (value if kind is int else len(value)) <= most:
                return (400, name, 0)
        if set(values) - {row[0] for row in due}:
            return (400, "", 0)
        name, roles = asker or ("", ())
        things = {thing[1]: thing for thing in self.states[-1] if thing[0] == "item"}
        owner = things[number][2] if number in things else None
        own = asker is not None and owner == name
        let = {
            "put": asker is not None, "write": True, "name": own or "boss" in roles, "many": "clerk" in roles or "boss" in roles, "drop": own,
            "sell": own or "boss" in roles, "pack": "clerk" in roles or "boss" in roles,
        }[deed]
        if not let or (number is not None and owner is None):
            return (404, "", 0)
        if number in [work["number"] for work in self.works if work["end"] is None]:
            return (409, "", 0)
        self.do(name, deed, number, values)
        following = {"put": "/", "write": "/", "drop": "/", "pack": "/pair" + path}.get(deed, f"/item/{number}")
        return (303, following, 0)

    def do(self, name, deed, number, values):
        things = {thing[:2]: thing for thing in self.states[-1]}
        if deed in ("put", "write"):
            kind = "item" if deed == "put" else "note"
            self.given[kind] += 1
            fields = FIELDS if deed == "put" else ("text",)
            things[(kind, self.given[kind])] = (kind, self.given[kind], name, tuple([values[field] for field in fields]))
        elif deed == "drop":
            del things[("item", number)]
        elif deed in ("name", "many"):
            kind, number, owner, (title, many, sold) = things[("item", number)]
            row = (values["to"], many, sold) if deed == "name" else (title, values["many"], sold)
            things[("item", number)] = (kind, number, owner, row)
        else:
            self.works.append({"name": deed, "number": number, "trail": [], "back": False, "end": None})
            return
        self.states.append(tuple(sorted(things.values())))

    def more(self, number, field, by):
        """Tell whether a more could be done, and was."""
        rows = list(self.states[-1])
        at = [thing[:2] for thing in rows].index(("item", number))
        values = list(rows[at][3])
        place = FIELDS.index(field)
        values[place] += by
        rows[at] = rows[at][:3] + (tuple(values),)
        if 0 <= values[place] <= 9999:
            self.states.append(tuple(rows))
        return 0 <= values[place] <= 9999

    def worked(self, many):
        steps = 0
        while steps < many:
            going = [work for work in self.works if work["end"] is None]
            if not going:
                break
            work, due = going[0], WORKS[going[0]["name"]]
            stands = [at for at in work["trail"] if at >= 0]
            stands = stands[:len(stands) - len([at for at in work["trail"] if at < 0])]
            if work["back"]:
                field, by = due[stands[-1]]
                assert self.more(work["number"], field, -by)
                work["trail"].append(-1)
                steps += 1
                work["end"] = "undone" if len(stands) == 1 else None
            elif self.more(work["number"], *due[len(stands)]):
                work["trail"].append(len(stands))
                steps += 1
                work["end"] = "done" if len(stands) + 1 == len(due) else None
            else:
                work["back"] = True
                work["end"] = None if stands else "undone"
        return steps

    def shown(self):
        sessions = [(number, self.asker_of(number)) for number in range(1, self.next_session())]
        words = [work["end"] or ("undoes" if work["back"] else "goes" if work["trail"] else "waits") for work in self.works]
        return {
            "now": self.now, "versions": self.states, "log": tuple([row[0] for row in self.rows]), "answers": tuple([row[2] for row in self.rows]),
            "sessions": tuple([(number, held[0] and held[0][0]) for number, held in sessions if held]),
            "works": tuple([(work["name"], work["number"], word) for work, word in zip(self.works, words)]),
            "line": tuple([row[6] for row in self.rows]), "len": len([row for row in self.rows if row[0][0] not in ("wait", "work")]),
        }

    def first_wrong(self, line):
        """Tell the first place at which a tuple of as many things is no line."""
        for at, (version, (entry, moment, answer, session, asker, current, own)) in enumerate(zip(line, self.rows)):
            if own is None or type(version) is not int:
                if own is not None or version is not None:
                    return at
                continue
            was = [current]
            if self.keep:
                # All versions that were the store's at some moment from keep ticks ahead on.
                for before, row in zip([0] + [row[5] for row in self.rows], self.rows[:at]):
                    if row[1] >= moment - self.keep:
                        was += range(before, row[5])
            posts = [row[5] for row in self.rows[:at] if row[0][0] == "post" and row[2][0] == 303 and row[4] == asker]
            if version not in was or version < max(posts, default=0):
                return at
            page = page_of(SITE, asker, self.states[version], entry[2])
            if answer[:2] != ((404, "") if page is None else (200, page)):
                return at
        return None


class Chance(unittest.TestCase):
    def some_values(self, chance, deed):
        pick = chance.choice
        values = {
            "item": {"name": pick(("pen", "<ink>", "&")), "many": pick((0, 1, 5, 7)), "sold": pick((0, 3, 4, 9999))}, "note": {"text": pick(("", "x"))},
            "name": {"to": pick(("pen", "ink"))}, "many": {"many": pick((2, 5, 9))},
        }.get(deed, {})
        if chance.random() < 0.1:
            values[pick(("name", "many", "x"))] = pick(("", 1, 9999))
        return values

    def some_post(self, chance, telling, session):
        words = chance.choice(("item", "item", "note", "name", "many", "drop", "sell", "pack", "sell", "pack", "no"))
        number = chance.choice((1, 1, 2, 2, 3, 9))
        path = {"item": "/item", "note": "/note", "pack": f"/{number}/w/{number}", "no": "/no"}.get(words, f"/item/{number}/{words}")
        tickets = len([1 for row in telling.rows if row[3] == session and row[0][0] == "get" and row[2][0] == 200])
        used = [row[0][3] for row in telling.rows if row[3] == session and row[0][0] == "post" and row[2][0] == 303]
        fresh = [ticket for ticket in range(1, tickets + 1) if ticket not in used]
        if not fresh and chance.random() < 0.9:
            return ("get", session, "/")
        ticket = chance.choice((fresh or [tickets]) * 5 + [chance.randrange(tickets + 2)])
        return post(session, path, ticket, **self.some_values(chance, words))

    def some_entry(self, chance, telling):
        sort = chance.random()
        sessions = [number for number, name in telling.shown()["sessions"]]
        session = chance.choice(sessions) if sessions and chance.random() < 0.97 else chance.randrange(4)
        if sort < 0.02 or not sessions:
            return ("come",)
        if sort < (0.06 if len(sessions) > 2 else 0.3):
            name = chance.choice(("ann", "bob", "cat", "cat", "eve"))
            return ("login", session, name, chance.choice((PEOPLE.get(name, ("x",))[0],) * 5 + ("x",)))
        if sort < 0.07:
            return ("logout", session)
        if sort < 0.17:
            return ("wait", chance.choice((0, 1, 1, 2, 3)))
        if sort < 0.27:
            return ("work", chance.choice((0, 1, 1, 2, 3, 9)))
        if sort < 0.55:
            path = chance.choice(("/", "/", "/", "/", "/item/1", "/item/1", "/item/2", "/item/3", "/pair/1/x/1", "/no", "/item"))
            return ("get", chance.choice((session,) * 6 + (0,)), path)
        again = [row[0] for row in telling.rows if row[0][0] == "post"]
        if again and sort < 0.62:
            return chance.choice(again)
        return self.some_post(chance, telling, session)

    def some_line(self, chance, telling):
        """Tell the house's own line with one or two places otherwise."""
        line = list(telling.shown()["line"])
        gets = [at for at, version in enumerate(line) if version is not None]
        for at in chance.sample(gets, chance.choice((1, 1, 1, 2))):
            line[at] = max(0, line[at] + chance.choice((-2, -1, 1)))
        if chance.random() < 0.05:
            line[chance.randrange(len(line))] = chance.choice((None, 0))
        return tuple(line)

    def one_day(self, seed, many):
        chance = random.Random(seed)
        keep, idle = chance.choice((0, 0, 1, 2, 5)), chance.choice((3, 10, 40))
        house, telling = House(SITE, keep=keep, idle=idle), Telling(keep, idle)
        for at in range(many):
            entry = FIRST[at] if at < len(FIRST) else self.some_entry(chance, telling)
            if entry[0] == "wait":
                told = (200, "", 0)
                house.wait(entry[1])
            elif entry[0] == "work":
                told = (200, "", house.work(entry[1]))
            else:
                told = house.ask(entry)
            self.assertEqual(told, telling.happened(entry), (seed, entry))
        self.assertEqual(shown(house), telling.shown(), seed)
        return chance, house, telling

    def test_days(self):
        codes, words, kept, lines = set(), set(), 0, [0, 0]
        for seed in range(30):
            chance, house, telling = self.one_day(seed, 80)
            codes |= {answer[0] for answer in house.answers()}
            words |= {word for name, number, word in house.works()}
            kept += len([1 for row in telling.rows if row[6] is not None and row[6] < row[5]])
            self.look_at_lines(chance, house, telling, lines)
            self.look_at_twins(house)
            self.each_form_did_its_deed_once(house)
        self.assertEqual(codes, {200, 303, 400, 403, 404, 409})
        self.assertEqual(words, {"waits", "goes", "undoes", "done", "undone"})
        self.assertGreater(kept, 15)
        self.assertGreater(min(lines), 15, lines)

    def look_at_lines(self, chance, house, telling, lines):
        self.assertTrue(is_line(house, house.line()))
        self.assertEqual(plain_of(house, house.line()), house.answers())
        for _ in range(10):
            line = self.some_line(chance, telling)
            wrong = telling.first_wrong(line)
            self.assertEqual(first_wrong(house, line), wrong)
            if line != house.line():
                lines[wrong is None] += 1
            if wrong is None:
                self.assertEqual(plain_of(house, line), house.answers())
            else:
                refuses(self, NoLine, plain_of, house, line)

    def look_at_twins(self, house):
        before = shown(house)
        again = house_of(SITE, house.log(), keep=house.keep, idle=house.idle)
        self.assertEqual((again, shown(again)), (house, before))
        twin = house.twin()
        twin.undo()
        twin.ask(("come",))
        self.assertEqual(shown(house), before)
        last = house.log()[-1]
        house.undo()
        self.assertEqual(house, house_of(SITE, before["log"][:-1], keep=house.keep, idle=house.idle))
        house.wait(last[1]) if last[0] == "wait" else house.work(last[1]) if last[0] == "work" else house.ask(last)
        self.assertEqual(shown(house), before)

    def each_form_did_its_deed_once(self, house):
        done = {entry[1:4] for entry, answer in zip(house.log(), house.answers()) if entry[0] == "post" and answer[0] == 303}
        steps = sum([answer[2] for entry, answer in zip(house.log(), house.answers()) if entry[0] == "work"])
        self.assertEqual(house.store().version() + len(house.works()), len(done) + steps)


if __name__ == "__main__":
    unittest.main()
