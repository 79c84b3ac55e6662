"""What more than one test file needs: things of any kind, and a look for changes."""

import copy
import unittest


class Sulky:
    """Refuses whatever is done with it but being looked at for its class."""

    def refuse(self, *given):
        raise RuntimeError("touched")

    __eq__ = __ne__ = __lt__ = __gt__ = __le__ = __ge__ = refuse
    __hash__ = __len__ = __bool__ = __iter__ = __getitem__ = __contains__ = __int__ = __index__ = refuse
    __str__ = __add__ = __mod__ = refuse

    def __repr__(self):
        return "Sulky()"


def deep_tuple(depth):
    thing = ()
    for _ in range(depth):
        thing = (thing,)
    return thing


def looped_list():
    thing = []
    thing.append(thing)
    return thing


# None of these is a name, a value, a head, a row, a question or a part of one.
STRANGE = [
    None, True, False, 1.0, 0.5, float("nan"), float("inf"), 1j, b"", b"a", bytearray(b"ab"), [], ["a"],
    [("a", "number")], ["table", "t"], {}, {"a": 1}, {"table": "t"}, set(), {1}, frozenset(("a",)), object(), object,
    int, str, len, lambda: "a", range(3), iter(()), Sulky(), Exception("a"), looped_list(), ..., NotImplemented,
    memoryview(b"a"), slice(1),
]

# Tuples that are neither heads, rows of a head, nor questions.
STRANGE_TUPLES = [
    (), ((),), ((), ()), (None,), (None, None), (True, False), ([], []), ({}, {}), (Sulky(),), (Sulky(), Sulky()),
    (Sulky(), Sulky(), Sulky(), Sulky()), (1.5,), ((1.5, "number"),), ("", ""), (("table",), "t"),
    (["table"], "t"), deep_tuple(100000), (deep_tuple(100000), deep_tuple(100000)),
]


class UnchangedCase(unittest.TestCase):
    def unchanged(self, call, *given):
        """What the call tells, once it is seen that it left alone what it was given."""
        kept = copy.deepcopy(given)
        told = call(*given)
        self.assertEqual(repr(given), repr(kept))
        return told
