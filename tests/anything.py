"""Values of any kind: drawn at random, and made from right values by a change in one place."""

import random

from twocompanies.boards import Board
from twocompanies.consoles import Console
from twocompanies.houses import House
from twocompanies.tables import Table
from twocompanies.wishes import Wish, whole

WORDS = ["", "a", "w", "never", "below", "alike", "parted", "stretch", "none", "least", "uncovered", "decide", "misled", "order", "not below",
         "board", "wish", "at least", "between", "draws", "kept", "down", "meet", "a\nb", "~" * 40, "x" * 13]
OBJECTS = [Board(2, ()), Board(3, (("meet", 1),)), Board(2, (("down", 0, "a"),)), Wish(2, ()), whole(3), Table((((1, 1),),)), House(2), Console(House(1))]


def random_thing(source, depth=3):
    """A value of any kind, nested at most so deep."""
    kind = source.randrange(9 if depth > 0 else 5)
    if kind < 2:
        return source.choice([0, 1, 2, 3, -1, 10 ** 39, -10 ** 39, True, False])
    if kind == 2:
        return source.choice(WORDS)
    if kind == 3:
        return source.choice(OBJECTS)
    if kind == 4:
        return None
    parts = [random_thing(source, depth - 1) for _ in range(source.randrange(5))]
    if kind == 8:
        return source.choice([parts, {at: part for at, part in enumerate(parts)}, {"a": parts}])
    return tuple(parts)


def random_things(seed, many):
    """So many values of any kind."""
    source = random.Random(seed)
    return [random_thing(source) for _ in range(many)]


def changed_leaf(thing):
    """Values that stand in the place of one that is no tuple."""
    if isinstance(thing, bool):
        return [not thing, int(thing), None]
    if isinstance(thing, int):
        return [thing + 1, thing - 1, -thing, str(thing), None, (thing,), [thing]] + ([bool(thing)] if thing in (0, 1) else [])
    if isinstance(thing, str):
        return [thing + "x", thing[:-1], thing.upper(), None, 0, (thing,), [thing]]
    if isinstance(thing, Board):
        return [Board(thing.size, thing.pieces + (("pass", 0, (0, 1)),)), Board(thing.size, ()), Board(thing.size + 1, thing.pieces),
                Board(thing.size, thing.pieces + (("pass", 0, "a"),)), str(thing), None, (thing,), [thing], (thing.size, thing.pieces), Wish(thing.size, ())]
    if isinstance(thing, Wish):
        return [Wish(thing.size, ()), Wish(thing.size, thing.parts[1:]), whole(thing.size % 6 + 1), str(thing), None, (thing,), [thing],
                (thing.size, thing.parts), Board(thing.size, ())]
    return [0, "", (), [thing], (thing,), {}]


def changed(thing):
    """Values that differ from a value in one place: a part that is another one, left out, repeated or exchanged."""
    if not isinstance(thing, tuple):
        return changed_leaf(thing)
    found = [list(thing), (thing,), None, {at: part for at, part in enumerate(thing)}]
    for at, part in enumerate(thing):
        found.extend(thing[:at] + (other,) + thing[at + 1:] for other in changed(part))
        found.append(thing[:at] + thing[at + 1:])
        found.append(thing[:at + 1] + thing[at:])
        if at > 0:
            found.append(thing[:at - 1] + (part, thing[at - 1]) + thing[at + 1:])
    return found


def some_changed(thing, seed=0, many=120):
    """Some of the values that differ from a value in one place."""
    found = changed(thing)
    return found if len(found) <= many else random.Random(seed).sample(found, many)


def undivided(number, by=6):
    """An equal number with a common divisor."""
    return None if number is None else (by * number[0], by * number[1])


def undivided_masses(masses):
    """Equal pairs of pairings and numbers, these with common divisors."""
    return tuple((pairing, undivided(number, 2 + at % 3)) for at, (pairing, number) in enumerate(masses))
