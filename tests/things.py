"""Nets, things of all kinds, and plain ways to check answers, for all tests."""

import copy
import itertools
import math
import random

LONG = 10 ** 60 - 1


def deep(kind, levels=12):
    """A list or tuple, so many deep within one another."""
    thing = 0
    for level in range(levels):
        thing = kind([thing])
    return thing


# Things of other kinds, none of which is a net, a row, a place, a sign or a set.
OTHERS = [
    None, True, False, "", " ", "abcd", "a b", "01 10", "ABBA", "0", "x" * 5000, "\n",
    -1, 9, 10, LONG, -LONG, [], [0], ["a"], [None], (), ((),), ([],), (None,), ("a",), (True,),
    (False, True), [(0, 1), (1, 0)], [[0, 1], [1, 0]], ((0, 1), [1, 0]), ([0, 1], [1, 0]),
    deep(list), deep(tuple), [0] * 999, (0,) * 999, ("",), (-1,), (LONG,), (0, 0), (1, 0), (0, 9),
]

LOOP = ((0, 0),)
LOOP3 = ((0, 0, 0),)
TURN = ((1, 1), (0, 0))
NINE = tuple(((p + 1) % 9, 0 if p else 1) for p in range(9))
NINE3 = tuple(((p + 1) % 9, (p + 2) % 9, (p * p) % 9) for p in range(9))
CERNY = ((1, 1), (1, 2), (2, 3), (3, 0))
ROUND6 = ((1, 2), (3, 4), (4, 3), (5, 5), (5, 5), (0, 0))

# The nets of two ways, from two places on, whose shortest words that call all places together are longest.
LONG_CALLS = [tuple(((place + 1) % many, 1 if place == 0 else place) for place in range(many))
              for many in range(2, 10)]

# Nets that hang together and have no stable pair: all on rings, and with tails on several rings.
PRISM = ((1, 2), (0, 3), (3, 0), (2, 1))
NO_STABLE6 = ((2, 4), (0, 2), (3, 3), (5, 1), (3, 5), (0, 0))
NO_STABLE9 = ((2, 3, 4), (0, 8, 0), (3, 3, 3), (5, 6, 7), (3, 2, 3), (6, 6, 6), (8, 0, 1), (6, 5, 6), (0, 0, 0))

NO_NETS = OTHERS + [
    ((0, 0),) * 10, ((0, 0, 0),) * 10, ((0, 1), (1, 0, 0)), ((0, 1, 1), (1, 0)), ((0,),), ((0,), (1,)),
    ((0, 0, 0, 0),), ((0, 1, 0, 1), (1, 0, 1, 0)), [(0, 0)], ([0, 0],), ((0, 0), [0, 0]),
    ((True, 0), (0, 1)), ((False, False),), ((0, 1), (1, True)), (("0", "0"),), ((0, "a"),), ("00",),
    ("01", "10"), ((None, 0),), (None, None), ((0, 0), None), ((-1, 0),), ((0, -1), (0, 0)),
    ((1, 0),), ((0, 2), (0, 0)), ((0, 1), (2, 0)), ((LONG, 0),), ((0, -LONG),), ((0, (0,)),),
    (((0, 0),),), ((0, [0]),), ((0, deep(tuple, 10)),), (deep(tuple, 11),), (deep(list, 11),),
    ((0, 0), ()), ((), (0, 0)), ((0, 0), 0), (0, 1), "((0, 0),)",
]


def all_nets(many, width):
    """Every net of so many places and signs."""
    rows = list(itertools.product(range(many), repeat=width))
    return list(itertools.product(rows, repeat=many))


def some_nets(seed=1, times=12):
    """Nets of one to nine places, with two and with three ways, always the same ones."""
    chance = random.Random(seed)
    nets = [LOOP, LOOP3, TURN, NINE, NINE3, CERNY, ROUND6]
    for many in range(1, 10):
        for width in (2, 3):
            for _ in range(times):
                nets.append(tuple(
                    tuple(chance.randrange(many) for _ in range(width)) for _ in range(many)))
            # Rings with some other roads, so that many of them hang together.
            for _ in range(times // 2):
                nets.append(tuple(
                    ((place + 1) % many,) + tuple(chance.randrange(many) for _ in range(width - 1))
                    for place in range(many)))
    return nets


def small_nets():
    """All nets of one and two places, and of three with two ways."""
    return all_nets(1, 2) + all_nets(1, 3) + all_nets(2, 2) + all_nets(2, 3) + all_nets(3, 2)


def reach(net):
    """By a table: reach(net)[p][q] tells whether some word leads from p to q."""
    many = range(len(net))
    table = [[p == q or q in net[p] for q in many] for p in many]
    for mid in many:
        for p in many:
            for q in many:
                table[p][q] = table[p][q] or (table[p][mid] and table[mid][q])
    return table


def is_whole_net(net):
    """Whether the net hangs together, by the table."""
    return all(all(row) for row in reach(net))


def whole_nets(seed=1, times=12):
    """The nets of some_nets that hang together."""
    return [net for net in some_nets(seed, times) if is_whole_net(net)]


def broken_nets(seed=1, times=12):
    """The nets of some_nets that do not hang together."""
    return [net for net in some_nets(seed, times) if not is_whole_net(net)]


def beat_nets(seed=1, times=4):
    """Nets that hang together and go round in sets, of up to nine places, with every beat that they can have."""
    chance = random.Random(seed)
    nets = []
    for many in range(1, 10):
        for beat in range(1, many + 1):
            for width in (2, 3):
                for _ in range(times):
                    by = [[place for place in range(many) if place % beat == turn] for turn in range(beat)]
                    nets.append(tuple(
                        tuple(chance.choice(by[(place + 1) % beat]) for _ in range(width)) for place in range(many)))
    return [net for net in nets if is_whole_net(net)]


def all_on_rings(seed=1, times=3):
    """Nets that hang together, in which each sign leads to each place from one: nothing is ever called together."""
    chance = random.Random(seed)
    nets = []
    for many in range(2, 10):
        for width in (2, 3):
            for _ in range(times):
                nets.append(tuple(zip(*[chance.sample(range(many), many) for _ in range(width)])))
    return [net for net in nets if is_whole_net(net)]


def words_up_to(net, length):
    """All words of at most so many signs, by length, then as Python orders texts."""
    signs = "abc"[:len(net[0])]
    for size in range(length + 1):
        for word in itertools.product(signs, repeat=size):
            yield "".join(word)


def walk(net, place, word):
    """Where the word leads from the place, sign by sign."""
    for sign in word:
        place = net[place]["abc".index(sign)]
    return place


def plain_call(net, places, length):
    """The first word of at most so many signs that leads all the places to one, by trial of all words."""
    for word in words_up_to(net, length):
        if len({walk(net, place, word) for place in places}) == 1:
            return word
    return None


def call_table(net, size):
    """By a table: how few signs call each set of at most so many places together, where any do."""
    far = {frozenset([place]): 0 for place in range(len(net))}
    sets = [frozenset(places) for many in range(2, size + 1)
            for places in itertools.combinations(range(len(net)), many)]
    grown = True
    while grown:
        grown = False
        for places in sets:
            behind = [far[goal] + 1 for goal in sign_images(net, places) if goal in far]
            if behind and far.get(places, 10 ** 6) > min(behind):
                far[places] = min(behind)
                grown = True
    return far


def sign_images(net, places):
    """Where each sign leads a set."""
    return [frozenset(net[place][at] for place in places) for at in range(len(net[0]))]


def table_call(net, far, places):
    """The first shortest word that calls a set together by the table, or None."""
    places = frozenset(places)
    if places not in far:
        return None
    word = ""
    while far[places]:
        goals = sign_images(net, places)
        at = min(at for at, goal in enumerate(goals) if far.get(goal, 10 ** 6) == far[places] - 1)
        word += "abc"[at]
        places = goals[at]
    return word


def pairs_of(net):
    """All pairs of places, sorted."""
    return list(itertools.combinations(range(len(net)), 2))


def pairs_reached(net, pair):
    """The pairs to which a pair is led, itself among them, as a set."""
    found, old = {pair}, set()
    while found != old:
        old = set(found)
        for one, other in old:
            for goal, far in zip(net[one], net[other]):
                if goal != far:
                    found.add((min(goal, far), max(goal, far)))
    return found


def plain_stable(net):
    """The stable pairs by their own words, sorted."""
    far = call_table(net, 2)
    return [pair for pair in pairs_of(net)
            if all(frozenset(other) in far for other in pairs_reached(net, pair))]


def orders(row):
    """The orders in which the goals of a row can stand, each once, sorted."""
    return sorted(set(itertools.permutations(row)))


def fewest(row, goal):
    """How few changes of two spots lead from a row to another one, by trying."""
    known, many = {row}, 0
    while goal not in known:
        many += 1
        for old in list(known):
            for one, other in itertools.combinations(range(len(row)), 2):
                new = list(old)
                new[one], new[other] = new[other], new[one]
                known.add(tuple(new))
    return many


def all_signings(net):
    """Every signing of a net, sorted."""
    return list(itertools.product(*[orders(row) for row in net]))


def beat_of(net):
    """The beat of a net that hangs together, by the lengths of words that lead 0 back to itself."""
    beat, places = 0, {0}
    for length in range(1, 3 * len(net) + 1):
        places = {goal for place in places for goal in net[place]}
        if 0 in places:
            beat = math.gcd(beat, length)
    return beat


def plain_images(net):
    """All images of all places, as a set of sets."""
    found = {frozenset(range(len(net)))}
    new = set(found)
    while new:
        new = {goal for places in new for goal in sign_images(net, places)} - found
        found |= new
    return found


def least_left(net):
    """How few places a word leaves, by all images of all places."""
    return min(len(places) for places in plain_images(net))


def plain_maps(net, most=20000):
    """All maps that words have, as a set; broken off beyond so many."""
    found = {tuple(range(len(net)))}
    new = set(found)
    while new and len(found) <= most:
        new = {tuple(net[goal][at] for goal in goals) for goals in new for at in range(len(net[0]))} - found
        found |= new
    return found


def spoil(thing):
    """Change a list that was told, and the lists within it, in every way that a list can be changed."""
    for inner in thing:
        if isinstance(inner, list):
            spoil(inner)
    thing.reverse()
    thing.append(None)
    del thing[0]
    thing.insert(0, [7])


def tells_lists_of_its_own(case, call):
    """Let the case fail unless what is told stays the same whatever is done to what was told."""
    first, second = call(), call()
    want = copy.deepcopy(first)
    spoil(first)
    case.assertEqual(second, want)
    case.assertEqual(call(), want)
    spoil(second)
    case.assertEqual(call(), want)


def refuses_no_nets(case, error, call):
    """Let the case fail unless the call refuses each thing that is no net with the error."""
    for thing in NO_NETS:
        with case.subTest(thing=str(thing)[:60]):
            with case.assertRaises(error) as caught:
                call(thing)
            case.assertEqual(type(caught.exception), error)
