"""Things of every kind that point [2] names, for what is asked of anything."""


def nested(wrap, depth, inner):
    """A thing with so many more around it, each made by wrap."""
    for _ in range(depth):
        inner = wrap(inner)
    return inner


WRAPS = (
    lambda inner: [inner],
    lambda inner: (inner,),
    lambda inner: (inner, inner),
    lambda inner: {"a": inner},
    lambda inner: {0: inner, (1, 2): [inner]},
)


def odd_things():
    """Things of each kind; but for the name "a" none of them is what the package asks for."""
    flat = [
        None, True, False, 0, 1, -1, 1440, 10 ** 40, -(10 ** 5000), "", " ", "a", "()", "[]",
        "None", "\n", "x" * 10000, ((),), ((), (), ()), ([], []), ((), []), ([], ()), {},
        {(): ()}, {0: ()}, [0], [None], [()], [[]], [{}], [""], [(1,)], [(1, 2, 3)], (1, 2), (0, 0),
        ((0, 1),), [True, False], (True, False), (None, None), ("", ""), ("a", "b"), ("ab",), ["ab"],
    ]
    shallow = [wrap(thing) for wrap in WRAPS for thing in (None, True, 7, "ab", {})]
    deep = [nested(wrap, 29, inner) for wrap in (WRAPS[0], WRAPS[1], WRAPS[3])
            for inner in ([], (), {}, 0, True, None, "a")]
    return flat + shallow + deep


def kin(thing):
    """Things that look like a number, a truth, a text, a tuple or a list, and are none such as it."""
    if isinstance(thing, tuple):
        return [list(thing), None, True, "", {}, dict.fromkeys(range(len(thing))), len(thing)]
    if isinstance(thing, list):
        return [tuple(thing), None, True, "", {}, dict.fromkeys(range(len(thing))), len(thing)]
    around = ["", (thing,), [thing], (), [], {}, {thing: thing}, None]
    if isinstance(thing, bool):
        return [int(thing), str(thing), *around]
    if isinstance(thing, str):
        return [True, False, 0, 1, thing.upper(), thing + " ", "\n" + thing, tuple(thing), *around]
    return [True, False, str(thing), *around]


def spoiled(thing):
    """The thing with one part of it, at any depth, in another kind; each such thing once."""
    yield from kin(thing)
    if isinstance(thing, (tuple, list)):
        make = tuple if isinstance(thing, tuple) else list
        for at, part in enumerate(thing):
            for other in spoiled(part):
                yield make([*thing[:at], other, *thing[at + 1:]])


def bent(text, signs):
    """The text cut short at each place, and with a sign more, fewer or another one there."""
    for at in range(len(text) + 1):
        yield text[:at]
        yield text[at:]
        yield text[:at] + text[at + 1:]
        for sign in signs:
            yield text[:at] + sign + text[at:]
            yield text[:at] + sign + text[at + 1:]
