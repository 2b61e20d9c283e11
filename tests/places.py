"""Values with a single place put otherwise."""

from values import Claims

STRANGE = [None, 0, 1, -1, 10 ** 39, "", "0>", "1<", "s", "closes", (), (1,), ((),), [], {}, object(), Claims(), b"0>"]


def places(value, above=()):
    """All places in nested tuples, as tuples of indexes; the whole is the place ()."""
    yield above
    if isinstance(value, tuple):
        for at, part in enumerate(value):
            yield from places(part, above + (at,))


def at_place(value, place):
    for at in place:
        value = value[at]
    return value


def put(value, place, part):
    """The value with another part at a place."""
    if not place:
        return part
    return value[:place[0]] + (put(value[place[0]], place[1:], part),) + value[place[0] + 1:]


def neighbours(part, source):
    """Values that are close to this one, and some that are not."""
    rows = [source.choice(STRANGE), source.choice(STRANGE)]
    if isinstance(part, tuple):
        at = source.randrange(len(part) + 1)
        more = part[at] if at < len(part) else part[:1]
        rows += [list(part), part[:at] + part[at + 1:], part[:at] + (more,) + part[at:], part[::-1], part + (None,),
                 (part,), part[1:] + part[:1]]
    elif isinstance(part, int) and not isinstance(part, bool):
        rows += [part + 1, part - 1, -part, part + source.randint(2, 9), None, str(part), (part,)]
    elif part is None:
        rows += [0, 1, source.randint(-5, 30), 10 ** 6, 10 ** 7]
    elif isinstance(part, str):
        rows += [part + " ", part[:-1], part.replace(">", "<"), part.replace("<", ">"), part.replace("0", "1"),
                 part.replace("out", "in"), part.replace("cost 1", "cost 0"), part.encode(), (part,)]
    return rows


def put_otherwise(value, source, many):
    """Values like this one but for a single place, of which so many are chosen."""
    known = list(places(value))
    for place in source.sample(known, min(many, len(known))):
        for part in neighbours(at_place(value, place), source):
            yield put(value, place, part)
