"""Things of many kinds, to be handed in where a refusal is told."""


class Sullen:
    """Fails whenever it is compared, measured, shown or walked."""

    __hash__ = None

    def fail(self, *given):
        raise RuntimeError("this thing is not to be asked")

    __eq__ = __ne__ = __lt__ = __gt__ = __le__ = __ge__ = fail
    __bool__ = __len__ = __iter__ = __contains__ = __getitem__ = fail
    __repr__ = __str__ = __format__ = __index__ = __int__ = fail


def no_texts():
    """One thing of each kind that is no text, made anew each time."""
    return [
        0, 1, -1, 10 ** 30, 0.0, 1.5, float("nan"), float("inf"), 2j,
        True, False, None, Ellipsis, NotImplemented,
        [], ["a"], ["abc", "d"], (), ("a",), ("a", "b"),
        {}, {"a": "b"}, {"a"}, set(), frozenset("a"), range(3),
        b"", b"a", bytearray(b"a"), memoryview(b"a"),
        str, object(), len, lambda: "a", iter("a"), (sign for sign in "a"),
        ValueError("a"), Sullen(),
    ]
