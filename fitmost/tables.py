"""Small tables: how calls are answered, by groups of signs that are alike."""

from fitmost.bodies import picked
from fitmost.kinds import any_kind
from fitmost.quarrels import each_with_each, places_of, refuse_too_many, things_at
from fitmost.things import is_of


def sign(web, bodies, place, thing):
    """The names, in order, of those bodies of whose kind at a place a thing is."""
    return tuple(sorted([name for name, row in bodies if is_of(web, thing, row[place])]))


def answer(web, bodies, call):
    """("one", name), ("quarrel",) or ("none",), by what is picked of a call."""
    told = picked(web, bodies, call)
    return told if told[0] == "one" else told[:1]


def signs_at(web, bodies, place):
    """A dict of all signs that things have at a place, with such a thing for each."""
    return {sign(web, bodies, place, thing): thing for thing in things_at(web, bodies, place, any_kind())}


def answers_of_signs(web, bodies, known):
    """A dict of the answers of all calls by their signs, rising, of such things for each place."""
    told = {}
    for signs in each_with_each([sorted(things) for things in known]):
        told[tuple(signs)] = answer(web, bodies, [things[one] for things, one in zip(known, signs)])
    return told


def answers_with(told, place, one):
    """The answers of all calls that have a sign at a place, rising by their other signs."""
    return [told[signs] for signs in told if signs[place] == one]


def grouped(told, place, signs):
    """Signs of a place, rising, in groups of those that are alike."""
    groups = []
    for one in signs:
        alike = [group for group in groups if answers_with(told, place, group[0]) == answers_with(told, place, one)]
        if alike:
            alike[0].append(one)
        else:
            groups.append([one])
    return groups


def table(web, bodies):
    """The tuple (groups, answers) of bodies; or TooMany."""
    refuse_too_many(bodies)
    known = [signs_at(web, bodies, place) for place in places_of(bodies)]
    told = answers_of_signs(web, bodies, known)
    groups = [grouped(told, place, sorted(things)) for place, things in enumerate(known)]
    answers = []
    for numbers in each_with_each([list(range(len(some))) for some in groups]):
        # Signs in one group are alike, so the first one tells for all of them.
        signs = tuple([some[number][0] for some, number in zip(groups, numbers)])
        answers.append((tuple(numbers), told[signs]))
    return (groups, answers)


def told_by(web, bodies, some, call):
    """The answer of a call, by the table some of the bodies."""
    groups, answers = some
    numbers = []
    for place, thing in enumerate(call):
        one = sign(web, bodies, place, thing)
        numbers.append([number for number, group in enumerate(groups[place]) if one in group][0])
    return dict(answers)[tuple(numbers)]


def parted(some, place, one, other):
    """Numbers with the one group's at a place that are answered otherwise with the other's there; None of one group."""
    answers = dict(some[1])
    for numbers in answers:
        swapped = numbers[:place] + (other,) + numbers[place + 1:]
        if numbers[place] == one and answers[numbers] != answers[swapped]:
            return numbers
    return None
