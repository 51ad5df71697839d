"""What the tests have in common: things of any kind, and how a refusal is told exactly."""

from doorhouse.desk import Desk
from doorhouse.errors import Cannot, NoMarks
from doorhouse.house import House
from doorhouse.store import Store

KINDS = (("item", (("name", "text"), ("many", "number"))), ("note", (("text", "text"),)))

# A site with what sites may have: pages of all, of one and of both, each sort of deed, works that go up and down.
SITE = {
    "routes": (
        ("home", "get", "/"),
        ("item", "get", "/item/{no:n}"),
        ("pair", "get", "/pair/{no:n}/{word}/{other:n}"),
        ("put", "post", "/item"),
        ("name", "post", "/item/{no:n}/name"),
        ("drop", "post", "/item/{no:n}/drop"),
        ("sell", "post", "/item/{no:n}/sell"),
        ("pack", "post", "/{no:n}/{word}/{other:n}"),
        ("write", "post", "/note"),
        ("count", "post", "/item/{no:n}/many"),
    ),
    "kinds": (
        ("item", (("name", "text"), ("many", "number"), ("sold", "number"))),
        ("note", (("text", "text"),)),
    ),
    "rules": (
        ("all", "see", "item", "name"),
        ("known", "see", "item", "many"),
        (("role", "clerk"), "see", "item", ""),
        ("own", "see", "item", ""),
        ("all", "see", "note", "text"),
        ("known", "add", "item", ""),
        ("all", "add", "note", ""),
        ("own", "change", "item", "name"),
        (("role", "clerk"), "change", "item", "many"),
        ("own", "change", "item", "sold"),
        ("own", "remove", "item", ""),
        (("role", "boss"), "change", "item", ""),
    ),
    "people": (
        ("ann", "pw-1", ()),
        ("bob", "b0b", ("clerk",)),
        ("cat", "-", ("boss", "clerk")),
    ),
    "pages": (
        ("home", '<p>{{asker}}</p>{{each item}}<i to="/item/{{no}}">{{name}} {{many}} {{sold}}</i>{{end}}'
                 '{{each note}}<q>{{text}}</q>{{end}}', (("item", "item", "all"), ("note", "note", "all"))),
        ("item", '{{each it}}<i is="{{name}}">{{many}}/{{sold}}</i>{{end}}{{when no}}<n>{{no}}</n>{{end}}',
         (("it", "item", "no"),)),
        ("pair", "{{each one}}<a>{{name}}</a>{{end}}{{each two}}<b>{{text}}</b>{{end}}<c>{{word}}</c>",
         (("one", "item", "no"), ("two", "note", "other"))),
    ),
    "forms": (
        ("put", (("name", "text", 1, 12), ("many", "number", 0, 99), ("sold", "number", 0, 9999)), ("add", "item"), "home"),
        ("name", (("to", "text", 0, 40),), ("change", "item", "no", "name"), "item"),
        ("drop", (), ("remove", "item", "no"), "home"),
        ("sell", (), ("work", "sell", "no"), "item"),
        ("pack", (), ("work", "pack", "other"), "pair"),
        ("write", (("text", "text", 0, 20),), ("add", "note"), "home"),
        ("count", (("many", "number", 2, 9),), ("change", "item", "no", "many"), "item"),
    ),
    "works": (
        ("sell", "item", (("sold", 1), ("many", -1))),
        ("pack", "item", (("many", -2), ("sold", 5), ("many", -3), ("sold", -9), ("many", 0))),
    ),
}

# What a house of that site could have: of each owner, with a blank and the marks' own signs in it.
THINGS = (
    ("item", 1, "ann", ("pen", 5, 0)),
    ("item", 2, "bob", ('a "b" <c> & d', 0, 9999)),
    ("item", 7, "", ("", 1, 2)),
    ("note", 1, "", ("hi",)),
    ("note", 2, "cat", ("",)),
)

# Texts, numbers and others that stand within one another below.
PLAIN_THINGS = (
    0, 1, -1, 9999, 10000, 10 ** 39, True, False, None,
    "", " ", "/", "//", "a", "a/b", "/a", "/a/", "get", "post", "GET", "\n", "\t", "/a\n", "/{a}", "{a}", "/{a:n}",
    "~" * 2000, "/" * 2000,
    "<a/>", "<a b=\"c\">d</a>", "<a", "&lt;", "&", ">", "<a>" * 600, "{{a}}", "{{each a}}{{end}}", "{{each a}}", "{", "}}",
)


def nested(depth):
    """Tell a thing that holds tuples, lists and dicts within one another, this deep."""
    thing = "/a"
    for at in range(depth):
        thing = ((thing,), [thing], {"a": thing})[at % 3]
    return thing


def anything():
    """Tell a list of things of any kind, none of them routes, a path, a verb, a name or values by chance alone."""
    things = list(PLAIN_THINGS)
    for plain in (0, True, None, "", "a", "/a", "get"):
        things += [(plain,), [plain], {"a": plain}, {1: plain}, (plain, plain), (plain, plain, plain), [plain] * 3]
        things += [((plain, plain, plain),), ((plain, plain),), [[plain]], ([plain], {"a": [plain]})]
    things += [(), [], {}, ((),), [()], ({},), {(): ()}, (("a", "get", "/"),), [("a", "get", "/")]]
    things += [(["a", "get", "/"],), {"a": ("a", "get", "/")}, ("a", "get", "/"), ("/",), ["/a"]]
    things += [list(range(100)), tuple(range(100)), {str(at): at for at in range(100)}, (("a", "get", "/"),) * 100]
    things += [nested(depth) for depth in range(1, 11)]
    things += [("a", (), ()), (("a", (), ()),), [("a", (), ())], {"a": ({"b": 1},)}, {"a": ({"b": None},)}, {"A": 1}]
    things += [KINDS, list(KINDS), KINDS[0], (("add", "note", "", ("x",)),), ("add", "note", "", ("x",))]
    things += [("add",), ("number", "text"), ("remove", "item", 1), [("remove", "item", 1)], {"no": 1, "asker": "a"}]
    things += objects() + [(thing,) for thing in objects()] + [{"a": thing} for thing in objects()]
    return things


def objects():
    """Tell a list of objects of the program's own classes."""
    store = Store(KINDS)
    store.done((("add", "note", "", ("x",)),))
    house = House(SITE, keep=5)
    house.ask(("come",))
    house.wait(2)
    return [NoMarks(3), Cannot(0), Store(KINDS), store, House(SITE), house, Desk(SITE)]


def shown(house):
    """Tell all that a house tells."""
    store = house.store()
    versions = [store.as_of(version) for version in range(store.version() + 1)]
    return {
        "now": house.now(), "versions": versions, "sessions": house.sessions(), "works": house.works(), "log": house.log(),
        "answers": house.answers(), "line": house.line(), "len": len(house),
    }


def house_with(*entries, keep=0, idle=50, site=None):
    """Tell a house that was asked and told these, one behind the other; a number alone is so many ticks."""
    house = House(SITE if site is None else site, keep=keep, idle=idle)
    for entry in entries:
        if isinstance(entry, int):
            house.wait(entry)
        elif entry[0] == "work":
            house.work(entry[1])
        else:
            house.ask(entry)
    return house


def get(session, path="/"):
    return ("get", session, path)


def post(session, path, ticket, **values):
    return ("post", session, path, ticket, values)


def put(session, ticket, name="pen", many=5, sold=0):
    """Tell the post that adds an item."""
    return post(session, "/item", ticket, name=name, many=many, sold=sold)


# The first requests of many a test: sessions 4, 5 and 6 are those of ann, bob and cat, with a ticket 1 each.
LOGINS = (
    ("come",), ("come",), ("come",), ("login", 1, "ann", "pw-1"), ("login", 2, "bob", "b0b"), ("login", 3, "cat", "-"),
    get(4), get(5), get(6),
)


def tells(case, action, *places, **names):
    """Tell what a call tells, and assert that it tells so again and changes nothing that is handed in."""
    before = repr((places, names))
    answer = action(*places, **names)
    case.assertEqual(repr((places, names)), before)
    case.assertEqual(action(*places, **names), answer)
    case.assertEqual(repr((places, names)), before)
    return answer


def refuses(case, error, action, *places, **names):
    """Assert that a call is refused with just this class, and changes nothing that is handed in; tell the refusal."""
    before = repr((places, names))
    try:
        answer = action(*places, **names)
    except ValueError as refusal:
        caught = refusal
    else:
        case.fail(f"{action.__name__} told {answer!r} of {places!r}, {names!r}")
    case.assertIs(type(caught), error, (places, names))
    case.assertEqual(repr((places, names)), before)
    return caught
