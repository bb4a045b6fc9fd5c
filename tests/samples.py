"""Webs that several tests go through, and the document's words on them told again as plainly as can be."""

import itertools
import random

from fitmost.errors import FitError, NoText
from fitmost.kinds import apart, joined, met, within
from fitmost.kindtexts import read_kind, show_kind
from fitmost.programs import Program
from fitmost.programtexts import read_program
from fitmost.quarrels import looks
from fitmost.webs import Web

PETS = [
    ("pet", []),
    ("cat", ["wild", "pet"]),
    ("dog", ["pet"]),
    ("wild", []),
    ("lynx", ["cat", "wild", "cat"]),
    ("stone", ()),
]


def letters(number):
    """A name of its own for each number from 0 to 675, of small letters alone."""
    return "k" + "abcdefghijklmnopqrstuvwxyz"[number // 26] + "abcdefghijklmnopqrstuvwxyz"[number % 26]


def random_tuples(source, most):
    """Tuples of a web without rings, in any order, of at most so many kinds."""
    names = [letters(number) for number in range(source.randint(0, most))]
    source.shuffle(names)
    tuples = []
    for at, name in enumerate(names):
        over = [source.choice(names[:at]) for _ in range(source.randint(0, 3))] if at else []
        tuples.append((name, over))
    source.shuffle(tuples)
    return tuples


def random_webs():
    """Tuples of webs of several sizes, the same in every run."""
    source = random.Random(71)
    return [PETS] + [random_tuples(source, most) for most in (3, 6, 6, 12, 24, 24)]


def plain_beneath(tuples, one, other):
    """Whether one kind is beneath another one, by the words alone."""
    return one == other or any(plain_beneath(tuples, up, other) for up in dict(tuples)[one])


def plain_tops(tuples, names):
    """The tops of some names, by the words alone."""
    return sorted({
        name for name in names
        if all(other == name for other in names if plain_beneath(tuples, name, other))
    })


def pets():
    """The web of PETS."""
    return Web(PETS)


def plain_has(spans, number):
    """Whether one of some spans has a number, by the words alone."""
    return any(all(low <= number for low in lows) and all(number <= high for high in highs) for lows, highs in spans)


def plain_is_of(tuples, thing, kind):
    """Whether a thing is of a kind, by the words alone."""
    whole, names, spans, inners = kind
    if whole:
        return True
    if thing is None:
        return False
    if isinstance(thing, list):
        return any(all(plain_is_of(tuples, part, inner) for part in thing) for inner in inners)
    if isinstance(thing, str):
        return any(plain_beneath(tuples, thing, name) for name in names)
    return plain_has(spans, thing)


def spans_in_one_form(spans):
    """Whether spans are in one form, by the words alone."""
    if not isinstance(spans, tuple):
        return False
    for span in spans:
        if not isinstance(span, tuple) or [type(end) for end in span] != [tuple, tuple]:
            return False
        low, high = span
        if low and high and low > high:
            return False
    # Between two neighbours there are two ends, with a number in between that is none of theirs.
    return all(
        before[1] and after[0] and before[1][0] + 1 < after[0][0] for before, after in zip(spans, spans[1:])
    )


def span(low=None, high=None):
    """The span from low to high, None where there is no end."""
    return (() if low is None else (low,), () if high is None else (high,))


ANY = (True, (), (), ())
NONE = (False, (), (), ())


def rough(names=(), spans=(), inners=()):
    """A kind that is perhaps not in one form."""
    return (False, tuple(names), tuple(spans), tuple(inners))


def random_rough(source, levels):
    """A kind of PETS, with at most so many levels of inners, that is perhaps not in one form."""
    names = source.sample([name for name, over in PETS], source.choice((0, 0, 1, 2, 4)))
    ends = (None, -2, 0, 1, 2, 3, 5, 9)
    spans = [span(source.choice(ends), source.choice(ends)) for _ in range(source.choice((0, 0, 1, 2, 3)))]
    many = source.choice((0, 1, 2, 3)) if levels else 0
    inners = [source.choice((ANY, NONE)) if source.random() < 0.1 else random_rough(source, levels - 1)
              for _ in range(many)]
    return rough(names, spans, inners)


def rough_kinds():
    """Kinds of PETS, perhaps not in one form, of up to three levels of inners."""
    small, great = rough(spans=[span(0, 3)]), rough(spans=[span(0, 9)])
    cat, dog, pet = rough(["cat"]), rough(["dog"]), rough(["pet"])
    told = [
        ANY, NONE, cat, dog, pet, small, great,
        rough(["lynx", "cat", "cat", "dog"]), rough(["wild", "pet", "stone"]),
        rough(spans=[span()]), rough(spans=[span(None, -1), span(0, None)]), rough(spans=[span(3, 3)]),
        rough(spans=[span(5, 4)]), rough(spans=[span(7, 9), span(0, 2), span(3, 3)]),
        rough(spans=[span(-10 ** 60 + 1, 10 ** 60 - 1)]),
        rough(inners=[NONE]), rough(inners=[ANY]), rough(inners=[ANY, cat, NONE]),
        rough(inners=[small, great]), rough(inners=[cat, dog]), rough(inners=[rough(["cat", "dog"])]),
        rough(inners=[dog, cat, dog, NONE]), rough(inners=[pet, small]), rough(inners=[rough(["pet"], [span(0, 3)])]),
        rough(["cat"], [span(1, None)], [cat, small]),
        rough(inners=[rough(inners=[NONE])]), rough(inners=[rough(inners=[ANY])]),
        rough(inners=[rough(inners=[cat]), rough(inners=[small])]), rough(inners=[rough(inners=[cat, small])]),
        rough(inners=[rough(["cat"], inners=[cat])]),
        rough(inners=[rough(inners=[rough(inners=[NONE])])]), rough(inners=[rough(inners=[rough(["pet"]), great])]),
        rough(["pet"], [], [rough(["dog"], [], [rough(["cat"], [], [rough(["stone"])])])]),
    ]
    source = random.Random(12)
    return told + [random_rough(source, levels) for levels in (1, 1, 2, 2, 3) for _ in range(6)]


def cut_in_two(told, cut):
    """Two spans, one perhaps without numbers, with the numbers of one: those up to the cut, and those behind it."""
    low, high = told
    return [(low, min((cut,), high or (cut,))), (max((cut + 1,), low), high)]


def retold(source, kind):
    """Another telling of a kind of PETS: shuffled, parts told twice, and parts put in that change nothing."""
    whole, names, spans, inners = kind
    if whole:
        return kind
    beneath = [low for low, over in PETS if any(plain_beneath(PETS, low, name) for name in names)]
    names = list(names) + beneath[:source.randint(0, 3)]
    spans = [part for told in spans for part in cut_in_two(told, source.randint(-3, 10))] + [span(4, 1)]
    lesser = [rough(inner[1][:1], inner[2][:1], inner[3][:1]) for inner in inners if not inner[0]]
    inners = [retold(source, inner) for inner in inners] + list(inners[:source.randint(0, 2)]) + lesser
    for parts in (names, spans, inners):
        source.shuffle(parts)
    choice = source.choice((list, tuple))
    return (False, choice(names), choice(spans), choice(inners))


def sample_things():
    """Things of PETS: numbers at and beside ends, names, the blank, and lists of up to three in one another."""
    plain = [None, *[name for name, over in PETS], *range(-4, 12), 10 ** 60 - 1, -10 ** 60 + 1, 10 ** 59]
    source = random.Random(3)
    once = [[], *[[thing] for thing in plain]] + [source.choices(plain[1:], k=source.randint(2, 4)) for _ in range(60)]
    twice = [[thing] for thing in once[::3]] + [source.choices(plain + once, k=source.randint(2, 4)) for _ in range(40)]
    thrice = [[[[]]]] + [[thing] for thing in twice[::3]] + [
        source.choices(once + twice, k=source.randint(2, 3)) for _ in range(30)]
    return plain + once + twice + thrice


def check_texts(test, read, is_written, texts, least=40):
    """That just those texts are refused with NoText that are not written so, and that there are enough of either."""
    told = {True: 0, False: 0}
    for text in texts:
        try:
            read(text)
            was_read = True
        except NoText:
            was_read = False
        except FitError:
            was_read = True
        test.assertEqual(was_read, is_written(text), text)
        told[was_read] += 1
    test.assertGreater(min(told.values()), least)


def short_texts(signs, longest):
    """All texts of some signs, of at most so many."""
    for many in range(longest + 1):
        for told in itertools.product(signs, repeat=many):
            yield "".join(told)


def longer_texts(number, words):
    """Texts of some words, the same in every run."""
    source = random.Random(number)
    for _ in range(20000):
        yield "".join(source.choices(words, k=source.randint(3, 9)))


def kind(text):
    """The kind of PETS that a text writes."""
    return read_kind(pets(), text)


def told_bodies(*rows):
    """Bodies of PETS called a, b and so on, in turn, each by the texts of its kinds."""
    return [("abcdefgh"[at], tuple(kind(text) for text in row.split(", "))) for at, row in enumerate(rows)]


def plain_fits(tuples, body, call):
    """Whether a body fits a call, by the words alone."""
    return all(plain_is_of(tuples, thing, told) for thing, told in zip(call, body[1], strict=True))


def plain_closer(web, one, other):
    """Whether a body is closer than another one, by the words alone."""
    return tuple(one[1]) != tuple(other[1]) and all(within(web, ours, theirs) for ours, theirs in zip(one[1], other[1]))


def plain_picked(web, tuples, bodies, call):
    """What is picked of a call, by the words alone."""
    fitting = [body for body in bodies if plain_fits(tuples, body, call)]
    for body in fitting:
        if all(plain_closer(web, body, other) for other in fitting if other[0] != body[0]):
            return ("one", body[0])
    if not fitting:
        for place in range(max(1, len(call))):
            upto = call[:place + 1]
            if not any(plain_fits(tuples, (name, row[:place + 1]), upto) for name, row in bodies):
                return ("none", place)
    one, other = [name for name, row in fitting
                  if not any(plain_closer(web, rival, (name, row)) for rival in fitting)][:2]
    return ("quarrel", one, other)


def plain_answer(bodies, call):
    """The answer of a call of bodies of PETS, by the words alone."""
    told = plain_picked(pets(), PETS, bodies, call)
    return {"one": told, "quarrel": ("quarrel",), "none": ("none",)}[told[0]]


def random_bodies(source, pool, places, many):
    """At most so many bodies of unlike rows, of kinds of a pool."""
    told = []
    for name in source.sample("abcdefgh", many):
        row = tuple(source.choice(pool) for _ in range(places))
        if row not in [other for _, other in told]:
            told.append((name, row))
    return told


def plain_line(web, tuples, bodies, call):
    """The line of a call, by the words alone."""
    left, names = [body for body in bodies if plain_fits(tuples, body, call)], []
    while left:
        first = next(body for body in left if not any(plain_closer(web, other, body) for other in left))
        names.append(first[0])
        left.remove(first)
    return names


def plain_sorts(web, kinds):
    """For each marks that some thing has, rising, such a thing: one of all of some kinds, and of none of the others."""
    told = [((), ANY, NONE)]
    for one in kinds:
        told = [row for marks, inside, outside in told for row in (
            (marks + (0,), inside, joined(web, outside, one)), (marks + (1,), met(web, inside, one), outside))
            if apart(web, *row[1:])]
    return [(marks, apart(web, inside, outside)[0]) for marks, inside, outside in told]


def plain_calls(web, bodies, row):
    """Calls of a row, one at least for each way in which bodies may tell calls apart, by the words alone."""
    choices = []
    for place, ours in enumerate(row):
        theirs = {show_kind(told[place]): told[place] for _, told in bodies}
        choices.append([thing for marks, thing in plain_sorts(web, [*theirs.values(), ours]) if marks[-1]])
    return [list(call) for call in itertools.product(*choices)]


def outcomes(bodies):
    """What looks of bodies come to together, with the answers: tuples (tuple of True and False, answer), each once."""
    told = []
    for call in plain_calls(pets(), bodies, [ANY] * len(bodies[0][1])):
        row = (tuple(plain_is_of(PETS, call[place], look) for place, look in looks(bodies)), plain_answer(bodies, call))
        if row not in told:
            told.append(row)
    return told


def enough(rows, many):
    """Whether so many looks, each chosen by what the ones before came to, tell the answers of some outcomes apart."""
    if len({answer for said, answer in rows}) < 2:
        return True
    return many > 0 and any(
        all(enough([row for row in rows if row[0][look] is so], many - 1) for so in (True, False))
        for look in range(len(rows[0][0])))


def plain_depth(bodies):
    """The least depth of a right tree of bodies, by the words alone."""
    rows = outcomes(bodies)
    return next(many for many in range(7) if enough(rows, many))


BODY_KINDS = (
    "cat", "pet", "wild", "dog|lynx", "pet|wild", "stone|1", "..", "1..9", "..5", "3", "..0|4|7..", "[any]", "[none]",
    "[cat]|[dog]", "[cat|dog]", "[pet]", "[..]", "[1..9]|[wild]", "[..5|pet]", "cat|1..9|[..]", "[[..]|[cat]]",
    "[[..]]|[[pet]]", "[[1..9|cat]]", "pet|[[none]]", "[1|2]|[2|3]|[1|3]", "[1|2|3]", "[any]|..",
)


def some_bodies(number):
    """Bodies of PETS, of one to three places and at most six looks, the same in every run."""
    source = random.Random(number)
    places = source.randint(1, 3)
    pools = []
    for _ in range(places):
        kinds = [kind(text) for text in source.sample(BODY_KINDS, 6 // places)]
        pools.append(5 * kinds + len(kinds) * [ANY] + [NONE])
    told = []
    for name in source.sample("abcdefgh", source.randint(1, 8)):
        row = tuple(source.choice(pool) for pool in pools)
        if row not in [other for _, other in told]:
            told.append((name, row))
    return told


PETS_ROW = "pet; cat: pet, wild; dog: pet; wild; lynx: cat, wild; stone"


def told_program(*rows):
    """The program of PETS that rows behind the web's write."""
    return read_program("\n".join([PETS_ROW, *rows]))


def random_term(source, places, many, deep):
    """A term of at most so many in one another, for a body of many places; places are those of all functions."""
    words = ["whole", "make", "blank", "part", "part", "part", "on"]
    if deep > 1:
        words += ["row", "sum", "less", "call", "call", "each", "if", "if", "if"]
    word = source.choice(words)

    def inner():
        return random_term(source, places, many, deep - 1)

    if word == "whole":
        return (word, source.choice((0, 1, 3, 7, 12, -2)))
    if word == "make":
        return (word, source.choice(PETS)[0])
    if word == "part":
        return (word, source.randrange(many))
    if word == "row":
        return (word, tuple(inner() for _ in range(source.randint(0, 3))))
    if word in ("sum", "less"):
        return (word, inner(), inner())
    if word == "call":
        name = source.choice(sorted(places))
        return (word, name, tuple(inner() for _ in range(places[name])))
    singles = sorted(name for name in places if places[name] == 1)
    if word == "each" and singles:
        return (word, source.choice(singles), inner())
    if word == "if":
        return (word, inner(), kind(source.choice(BODY_KINDS)), inner(), inner())
    return ("on",) if word == "on" else ("blank",)


def some_functions(number):
    """Functions of PETS: one to three, of one or two places, of one to five bodies, the same in every run."""
    source = random.Random(number)
    places = {name: source.choice((1, 1, 2)) for name in source.sample("fgh", source.randint(1, 3))}
    told = []
    for name, many in places.items():
        # Often a few kinds alone, in a chain, and any: so that some programs have no flaws.
        pool = [ANY, *map(kind, source.choice((
            ("cat", "pet", "pet|.."), ("..", "0..9", "3"), ("[any]", "[..]", "[1..9]"), ("..", "[any]", "pet"),
            source.sample(BODY_KINDS, 3))))]
        bodies = random_bodies(source, pool, many, source.randint(1, 5))
        result = source.choice((ANY, ANY, kind(source.choice(BODY_KINDS)), kind("..|[any]")))
        told.append((name, result, [
            (body, row, random_term(source, places, many, source.randint(1, 4))) for body, row in bodies]))
    return told


def some_program(number):
    """A program of some_functions."""
    return Program(pets(), some_functions(number))


class Stop(Exception):
    """What a plain run tells, where it is no thing."""


def plain_run(tuples, functions, function, things, most=200, seen=None):
    """What a run tells, by the words alone; seen is a list to put in tuples (function, body, place, thing)."""
    web, calls = Web(tuples), []
    bodies_of = {name: bodies for name, result, bodies in functions}

    def begin(others):
        if len(calls) + 1 > most or len(others) > 12:
            raise Stop("long")
        calls.append(others)

    def call(name, given, others):
        begin(others)
        rows = [(body, row) for body, row, term in bodies_of[name]]
        told = plain_picked(web, tuples, rows, given)
        if told[0] != "one":
            raise Stop(told[0], name, *told[1:])
        return tell(name, told[1], given, others)

    def tell(name, body, given, others):
        return value({told: term for told, row, term in bodies_of[name]}[body], (), (name, body, given, others))

    def hand_on(name, body, given, others):
        begin(others)
        names = plain_line(web, tuples, [(told, row) for told, row, term in bodies_of[name]], given)
        if names[-1] == body:
            raise Stop("end", name, body)
        return tell(name, names[names.index(body) + 1], given, others)

    def value(term, place, at):
        thing = value_of(term, place, at)
        if seen is not None:
            seen.append((at[0], at[1], place, thing))
        return thing

    def bounded(told):
        def size(thing):
            return 1 + sum(map(size, thing)) if isinstance(thing, list) else 1

        def deep(thing):
            return 1 + max(map(deep, thing), default=0) if isinstance(thing, list) else 0

        if size(told) > 60 or deep(told) > 3:
            raise Stop("long")
        return told

    def value_of(term, place, at):
        name, body, given, others = at
        inside = others + ((name, body),)
        match term:
            case ("whole" | "make", told):
                return told
            case ("blank",):
                return None
            case ("part", number):
                return given[number]
            case ("row", terms):
                return bounded([value(inner, place + (step,), at) for step, inner in enumerate(terms)])
            case ("sum" | "less" as word, *sides):
                one, other = [value(inner, place + (step,), at) for step, inner in enumerate(sides)]
                if type(one) is not int or type(other) is not int:
                    raise Stop("number")
                return one + other if word == "sum" else one - other
            case ("call", called, terms):
                return call(called, [value(inner, place + (step,), at) for step, inner in enumerate(terms)], inside)
            case ("each", called, inner):
                told = value(inner, place + (0,), at)
                if not isinstance(told, list):
                    raise Stop("row")
                return bounded([call(called, [thing], inside) for thing in told])
            case ("on",):
                return hand_on(name, body, given, inside)
            case ("if", asked, told, then, otherwise):
                if plain_is_of(tuples, value(asked, place + (0,), at), told):
                    return value(then, place + (1,), at)
                return value(otherwise, place + (2,), at)

    try:
        return ("thing", call(function, list(things), ()))
    except Stop as stop:
        return stop.args
