"""Webs that several tests go through, and the document's words on them told again as plainly as can be."""

import random

from fitmost.webs import Web

PETS = [
    ("pet", []),
    ("cat", ["wild", "pet"]),
    ("dog", ["pet"]),
    ("wild", []),
    ("lynx", ["cat", "wild", "cat"]),
    ("stone", ()),
]


def letters(number):
    """A name of its own for each number from 0 to 675, of small letters alone."""
    return "k" + "abcdefghijklmnopqrstuvwxyz"[number // 26] + "abcdefghijklmnopqrstuvwxyz"[number % 26]


def random_tuples(source, most):
    """Tuples of a web without rings, in any order, of at most so many kinds."""
    names = [letters(number) for number in range(source.randint(0, most))]
    source.shuffle(names)
    tuples = []
    for at, name in enumerate(names):
        over = [source.choice(names[:at]) for _ in range(source.randint(0, 3))] if at else []
        tuples.append((name, over))
    source.shuffle(tuples)
    return tuples


def random_webs():
    """Tuples of webs of several sizes, the same in every run."""
    source = random.Random(71)
    return [PETS] + [random_tuples(source, most) for most in (3, 6, 6, 12, 24, 24)]


def plain_beneath(tuples, one, other):
    """Whether one kind is beneath another one, by the words alone."""
    return one == other or any(plain_beneath(tuples, up, other) for up in dict(tuples)[one])


def plain_tops(tuples, names):
    """The tops of some names, by the words alone."""
    return sorted({
        name for name in names
        if all(other == name for other in names if plain_beneath(tuples, name, other))
    })


def pets():
    """The web of PETS."""
    return Web(PETS)
