"""Things of many kinds, and ways to make near misses of a told thing."""


class Odd:
    """Tells that it is like all things, and has no length."""

    def __eq__(self, other):
        return True

    def __hash__(self):
        return 0

    def __len__(self):
        raise RuntimeError("asked for a length")


class Sore:
    """Cannot be compared at all."""

    __hash__ = None

    def __eq__(self, other):
        raise RuntimeError("compared")

    def __bool__(self):
        raise RuntimeError("tested")


def nested(depth):
    thing = ()
    for _ in range(depth):
        thing = (thing,)
    return thing


def anything():
    """Things that are neither turns nor webs."""
    return [
        None, True, False, 0, 1, -1, 5, 10 ** 18, -10 ** 18, 10 ** 40,
        "", "a", "own", "copy", "(0,)", "01", "\n", b"", b"\x00\x01",
        [], [0], [0, 1], [[]], {}, {0: 0}, {"a": [1]}, {0, 1}, set(), frozenset(),
        (), ((),), (None,), (True,), (False,), ("0",), ([],), ({},), ((0,),),
        (0, None), (0, True), (False, 1), (0, "1"), (0, [1]), (0, (1,)),
        nested(3), nested(40), (nested(20), nested(20), nested(20)),
        range(2), object(), int, tuple, len, Odd(), Sore(), (Odd(),), (Sore(),),
        (Odd(), Odd()), (Odd(), Odd(), Odd()), (Sore(), Sore(), Sore()),
        (1, (0,), (Odd(),)), (1, (0,), (((Odd(), 0, Odd()),),)),
        (1, (0,), (((1, 0, (Odd(), (0,))),),)), (1, (0,), (((1, 0, (Sore(), (0,))),),)),
        tuple([0] * 5000), [0] * 5000, "0" * 5000,
    ]


def places(thing, at=()):
    """The places of all things within a tuple, as tuples of indexes."""
    found = [at]
    if isinstance(thing, tuple):
        for k, part in enumerate(thing):
            found.extend(places(part, at + (k,)))
    return found


def part_at(thing, place):
    for k in place:
        thing = thing[k]
    return thing


def put(thing, place, part):
    """The tuple with another part in the place."""
    if not place:
        return part
    k = place[0]
    return thing[:k] + (put(thing[k], place[1:], part),) + thing[k + 1:]


def near_misses(thing):
    """The tuple with one thing in it of another kind, in all its places."""
    for place in places(thing):
        part = part_at(thing, place)
        others = [None, True, False, [part], (part,), {}, {0: part}, Odd(), Sore()]
        if isinstance(part, tuple):
            others += [list(part), dict(enumerate(part)), range(len(part)), 0, 1]
        if isinstance(part, int):
            others += [str(part), str(part).encode()]
        if isinstance(part, str):
            others += ["", 0, 1, part.upper(), part + " ", part.encode(), list(part), tuple(part)]
        for other in others:
            yield put(thing, place, other)
