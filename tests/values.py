"""Values for the tests: wrong texts, and values of other kinds than the ones that are asked for."""


class Claims:
    """Claims to be equal to everything: no string, tuple or integer may be replaced by it."""

    def __eq__(self, other):
        return True


def nested(depth):
    """A tuple that is so many tuples deep."""
    value = ()
    for level in range(1, depth):
        value = (value,)
    return value


def others():
    """Values that are right nowhere: neither strings nor tuples, nor integers within any bounds."""
    return [None, True, False, -10, 10 ** 39, b"", b"signs abc", b"x out", [], ["signs abc"], {}, {"x": 1}, object(),
            Claims(), ValueError("x out"), str, len]


def others_than_strings():
    """Values that are no strings."""
    return others() + [0, 1, (), ("signs abc",), ("x out",), nested(10)]


def others_than_tuples():
    """Values that are no tuples."""
    return others() + [0, 1, "", "x", "xy", "turn", [0], [0, 0], ["turn"], [nested(9)]]


def others_than_integers():
    """Values that are no integers from -9 to 10 ** 30."""
    return others() + ["", "0", (), (0,), [0], 10 ** 30 + 1, nested(10)]


def changed(text, signs):
    """All strings that come from a text by one sign less, more or changed, or by two signs that change places."""
    for at in range(len(text) + 1):
        yield text[:at] + text[at + 1:]
        yield text[:at] + text[at:at + 2][::-1] + text[at + 2:]
        for sign in signs:
            yield text[:at] + sign + text[at:]
            yield text[:at] + sign + text[at + 1:]
