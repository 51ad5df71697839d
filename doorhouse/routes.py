"""Routes: paths, patterns, and which route a path finds (DOC.md, stage 1)."""

from doorhouse.errors import NoName, NoPath, NoRoutes, NoValues, NoVerb
from doorhouse.values import are_named_rows, are_unlike, is_name, is_number_value, is_word, is_written_number

GET = "get"
POST = "post"
VERBS = (GET, POST)
MOST_PARTS = 5
MOST_ROUTES = 10
NUMBER_MARK = ":n"

# The sorts of parts are numbered so that the more particular one is less.
WORD = 0
NUMBER_HOLE = 1
WORD_HOLE = 2


def pieces_of(thing):
    """Tell the list of what stands behind each slash; None of what is no text cut so, or has too many."""
    if not isinstance(thing, str) or not thing.startswith("/"):
        return None
    if thing == "/":
        return []
    pieces = thing[1:].split("/")
    return pieces if len(pieces) <= MOST_PARTS else None


def is_path(thing):
    """Tell whether it is a path."""
    pieces = pieces_of(thing)
    return pieces is not None and all([is_word(piece) for piece in pieces])


def read_part(piece):
    """Tell a part as a tuple (sort, word or NAME); None of what is no part."""
    if is_word(piece):
        return (WORD, piece)
    if not piece.startswith("{") or not piece.endswith("}"):
        return None
    inner = piece[1:-1]
    if is_name(inner):
        return (WORD_HOLE, inner)
    name = inner.removesuffix(NUMBER_MARK)
    # A name with nothing taken off was told above, so here the mark was there.
    return (NUMBER_HOLE, name) if is_name(name) else None


def holes_in(parts):
    """Tell the list of those parts that are holes."""
    return [part for part in parts if part[0] != WORD]


def is_pattern(thing):
    """Tell whether it is a pattern."""
    pieces = pieces_of(thing)
    if pieces is None:
        return False
    parts = [read_part(piece) for piece in pieces]
    return None not in parts and are_unlike([name for sort, name in holes_in(parts)])


def parts_of(pattern):
    """Tell the list of the parts of what is known to be a pattern."""
    return [read_part(piece) for piece in pieces_of(pattern)]


def is_verb(thing):
    """Tell whether it is a verb."""
    return isinstance(thing, str) and thing in VERBS


def is_route(thing):
    """Tell whether it is a tuple (name, verb, pattern)."""
    if not isinstance(thing, tuple) or len(thing) != 3:
        return False
    name, verb, pattern = thing
    return is_name(name) and is_verb(verb) and is_pattern(pattern)


def are_routes(thing):
    """Tell whether it is a tuple of routes, with names unlike."""
    return are_named_rows(thing, 1, MOST_ROUTES, is_route)


def check_routes(routes):
    """Refuse what is no routes."""
    if not are_routes(routes):
        raise NoRoutes("these are no routes")


def check_path(path):
    """Refuse what is no path."""
    if not is_path(path):
        raise NoPath("this is no path")


def fits(part, word):
    """Tell whether a word may stand at a part."""
    sort, text = part
    if sort == WORD:
        return word == text
    return sort == WORD_HOLE or is_written_number(word)


def meets(words, parts):
    """Tell whether a path of these words meets a pattern of these parts."""
    if len(words) != len(parts):
        return False
    return all([fits(part, word) for part, word in zip(parts, words)])


def sorts_of(parts):
    """Tell the list of the sorts of parts: of two patterns that a path meets, the more particular has the lesser."""
    return [sort for sort, name in parts]


def read_values(parts, words):
    """Tell the values that these words give to the holes among the parts."""
    values = []
    for (sort, name), word in zip(parts, words):
        if sort == NUMBER_HOLE:
            values.append((name, int(word)))
        elif sort == WORD_HOLE:
            values.append((name, word))
    return tuple(values)


def find_route(routes, verb, path):
    """Tell what found does, of what is known to be routes, a verb and a path."""
    words = pieces_of(path)
    best_name = None
    best_parts = []
    for name, own_verb, pattern in routes:
        parts = parts_of(pattern)
        if own_verb != verb or not meets(words, parts):
            continue
        # Of equals the one told first stays, so only a lesser one takes its place.
        if best_name is None or sorts_of(parts) < sorts_of(best_parts):
            best_name = name
            best_parts = parts
    if best_name is None:
        return None
    return (best_name, read_values(best_parts, words))


def found(routes, verb, path):
    """Tell the tuple (name, values) of the route of this verb that the path finds, None where there is none."""
    check_routes(routes)
    if not is_verb(verb):
        raise NoVerb("this is no verb")
    check_path(path)
    return find_route(routes, verb, path)


def verbs_of(routes, path):
    """Tell the tuple of the verbs by which the path finds a route."""
    check_routes(routes)
    check_path(path)
    return tuple([verb for verb in VERBS if find_route(routes, verb, path) is not None])


def is_value_of(hole, thing):
    """Tell whether it is a tuple (NAME, value) as this hole gives it."""
    sort, name = hole
    if not isinstance(thing, tuple) or len(thing) != 2 or thing[0] != name:
        return False
    return is_number_value(thing[1]) if sort == NUMBER_HOLE else is_word(thing[1])


def are_values_of(parts, thing):
    """Tell whether it is a tuple of values as these parts give them."""
    holes = holes_in(parts)
    if not isinstance(thing, tuple) or len(thing) != len(holes):
        return False
    return all([is_value_of(hole, value) for hole, value in zip(holes, thing)])


def path_of(routes, name, values=()):
    """Tell the path of the route of this name with these values in its holes."""
    check_routes(routes)
    patterns = [pattern for own_name, verb, pattern in routes if own_name == name]
    if not patterns:
        raise NoName("no route has this name")
    parts = parts_of(patterns[0])
    if not are_values_of(parts, values):
        raise NoValues("these are no values of this route")
    value_by_name = dict(values)
    return "/" + "/".join([text if sort == WORD else str(value_by_name[text]) for sort, text in parts])


def shape_of(route):
    """Tell what two routes have in common where the one told later can never be found: all but the holes' names."""
    name, verb, pattern = route
    return (verb, [(sort, text if sort == WORD else "") for sort, text in parts_of(pattern)])


def hidden(routes):
    """Tell the tuple of tuples (name, other) of each route that no path finds, other being the one that hides it."""
    check_routes(routes)
    told = []
    for at, route in enumerate(routes):
        # A path can always avoid the words of other routes at a hole, so only a like shape hides a route whole.
        alike = [other for other in routes[:at] if shape_of(other) == shape_of(route)]
        if alike:
            told.append((route[0], alike[0][0]))
    return tuple(told)
