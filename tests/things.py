"""Nets, things of all kinds, and plain ways to check answers, for all tests."""

import itertools
import random

LONG = 10 ** 60 - 1


def deep(kind, levels=12):
    """A list or tuple, so many deep within one another."""
    thing = 0
    for level in range(levels):
        thing = kind([thing])
    return thing


# Things of other kinds, none of which is a net, a row, a place, a sign or a set.
OTHERS = [
    None, True, False, "", " ", "abcd", "a b", "01 10", "ABBA", "0", "x" * 5000, "\n",
    -1, 9, 10, LONG, -LONG, [], [0], ["a"], [None], (), ((),), ([],), (None,), ("a",), (True,),
    (False, True), [(0, 1), (1, 0)], [[0, 1], [1, 0]], ((0, 1), [1, 0]), ([0, 1], [1, 0]),
    deep(list), deep(tuple), [0] * 999, (0,) * 999, ("",), (-1,), (LONG,), (0, 0), (1, 0), (0, 9),
]

LOOP = ((0, 0),)
LOOP3 = ((0, 0, 0),)
TURN = ((1, 1), (0, 0))
NINE = tuple(((p + 1) % 9, 0 if p else 1) for p in range(9))
NINE3 = tuple(((p + 1) % 9, (p + 2) % 9, (p * p) % 9) for p in range(9))
CERNY = ((1, 1), (1, 2), (2, 3), (3, 0))
ROUND6 = ((1, 2), (3, 4), (4, 3), (5, 5), (5, 5), (0, 0))

NO_NETS = OTHERS + [
    ((0, 0),) * 10, ((0, 0, 0),) * 10, ((0, 1), (1, 0, 0)), ((0, 1, 1), (1, 0)), ((0,),), ((0,), (1,)),
    ((0, 0, 0, 0),), ((0, 1, 0, 1), (1, 0, 1, 0)), [(0, 0)], ([0, 0],), ((0, 0), [0, 0]),
    ((True, 0), (0, 1)), ((False, False),), ((0, 1), (1, True)), (("0", "0"),), ((0, "a"),), ("00",),
    ("01", "10"), ((None, 0),), (None, None), ((0, 0), None), ((-1, 0),), ((0, -1), (0, 0)),
    ((1, 0),), ((0, 2), (0, 0)), ((0, 1), (2, 0)), ((LONG, 0),), ((0, -LONG),), ((0, (0,)),),
    (((0, 0),),), ((0, [0]),), ((0, deep(tuple, 10)),), (deep(tuple, 11),), (deep(list, 11),),
    ((0, 0), ()), ((), (0, 0)), ((0, 0), 0), (0, 1), "((0, 0),)",
]


def all_nets(many, width):
    """Every net of so many places and signs."""
    rows = list(itertools.product(range(many), repeat=width))
    return list(itertools.product(rows, repeat=many))


def some_nets(seed=1, times=12):
    """Nets of one to nine places, with two and with three ways, always the same ones."""
    chance = random.Random(seed)
    nets = [LOOP, LOOP3, TURN, NINE, NINE3, CERNY, ROUND6]
    for many in range(1, 10):
        for width in (2, 3):
            for _ in range(times):
                nets.append(tuple(
                    tuple(chance.randrange(many) for _ in range(width)) for _ in range(many)))
            # Rings with some other roads, so that many of them hang together.
            for _ in range(times // 2):
                nets.append(tuple(
                    ((place + 1) % many,) + tuple(chance.randrange(many) for _ in range(width - 1))
                    for place in range(many)))
    return nets


def small_nets():
    """All nets of one and two places, and of three with two ways."""
    return all_nets(1, 2) + all_nets(1, 3) + all_nets(2, 2) + all_nets(2, 3) + all_nets(3, 2)


def reach(net):
    """By a table: reach(net)[p][q] tells whether some word leads from p to q."""
    many = range(len(net))
    table = [[p == q or q in net[p] for q in many] for p in many]
    for mid in many:
        for p in many:
            for q in many:
                table[p][q] = table[p][q] or (table[p][mid] and table[mid][q])
    return table


def is_whole_net(net):
    """Whether the net hangs together, by the table."""
    return all(all(row) for row in reach(net))


def whole_nets(seed=1, times=12):
    """The nets of some_nets that hang together."""
    return [net for net in some_nets(seed, times) if is_whole_net(net)]


def broken_nets(seed=1, times=12):
    """The nets of some_nets that do not hang together."""
    return [net for net in some_nets(seed, times) if not is_whole_net(net)]


def words_up_to(net, length):
    """All words of at most so many signs, by length, then as Python orders texts."""
    signs = "abc"[:len(net[0])]
    for size in range(length + 1):
        for word in itertools.product(signs, repeat=size):
            yield "".join(word)


def walk(net, place, word):
    """Where the word leads from the place, sign by sign."""
    for sign in word:
        place = net[place]["abc".index(sign)]
    return place


def refuses_no_nets(case, error, call):
    """Let the case fail unless the call refuses each thing that is no net with the error."""
    for thing in NO_NETS:
        with case.subTest(thing=str(thing)[:60]):
            with case.assertRaises(error) as caught:
                call(thing)
            case.assertEqual(type(caught.exception), error)
