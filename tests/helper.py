"""What the tests have in common: things of any kind, and how a refusal is told exactly."""

from doorhouse.errors import NoMarks

# Texts, numbers and others that stand within one another below.
PLAIN_THINGS = (
    0, 1, -1, 9999, 10000, 10 ** 39, True, False, None,
    "", " ", "/", "//", "a", "a/b", "/a", "/a/", "get", "post", "GET", "\n", "\t", "/a\n", "/{a}", "{a}", "/{a:n}",
    "~" * 2000, "/" * 2000,
)


def nested(depth):
    """Tell a thing that holds tuples, lists and dicts within one another, this deep."""
    thing = "/a"
    for at in range(depth):
        thing = ((thing,), [thing], {"a": thing})[at % 3]
    return thing


def anything():
    """Tell a list of things of any kind, none of them routes, a path, a verb, a name or values by chance alone."""
    things = list(PLAIN_THINGS)
    for plain in (0, True, None, "", "a", "/a", "get"):
        things += [(plain,), [plain], {"a": plain}, {1: plain}, (plain, plain), (plain, plain, plain), [plain] * 3]
        things += [((plain, plain, plain),), ((plain, plain),), [[plain]], ([plain], {"a": [plain]})]
    things += [(), [], {}, ((),), [()], ({},), {(): ()}, (("a", "get", "/"),), [("a", "get", "/")]]
    things += [(["a", "get", "/"],), {"a": ("a", "get", "/")}, ("a", "get", "/"), ("/",), ["/a"]]
    things += [list(range(100)), tuple(range(100)), {str(at): at for at in range(100)}, (("a", "get", "/"),) * 100]
    things += [nested(depth) for depth in range(1, 11)]
    things += [NoMarks(3)]
    return things


def refuses(case, error, action, *places, **names):
    """Assert that a call is refused with just this class, and changes nothing that is handed in."""
    before = repr((places, names))
    try:
        told = action(*places, **names)
    except ValueError as refusal:
        case.assertIs(type(refusal), error, (places, names))
    else:
        case.fail(f"{action.__name__} told {told!r} of {places!r}, {names!r}")
    case.assertEqual(repr((places, names)), before)
