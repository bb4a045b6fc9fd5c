"""Spans of whole numbers: tuples (low, high), each of both () where there is no end, or a tuple of one number."""


def spans_have(spans, number):
    """Whether one of the spans has the number."""
    for low, high in spans:
        if (not low or low[0] <= number) and (not high or number <= high[0]):
            return True
    return False


def full(spans):
    """Those spans that have a number."""
    return [(low, high) for low, high in spans if not low or not high or low[0] <= high[0]]


def higher_end(one, other):
    """The higher one of two high ends."""
    return max(one, other) if one and other else ()


def lower_end(one, other):
    """The lower one of two high ends."""
    return min(one, other) if one and other else one or other


def reaches(high, low):
    """Whether no number lies between a span that ends with high and a later one that begins with low."""
    return not high or not low or low[0] <= high[0] + 1


def spans_formed(spans):
    """The spans in one form that have the numbers of some."""
    told = []
    # () stands ahead of all other tuples, so a span without a low end comes first.
    for low, high in sorted(full(spans)):
        if told and reaches(told[-1][1], low):
            told[-1] = (told[-1][0], higher_end(told[-1][1], high))
        else:
            told.append((low, high))
    return tuple(told)


def spans_met(one, other):
    """The spans in one form that have the numbers that both have."""
    # The greater of two low ends is the higher one, since () stands ahead of all other tuples.
    return spans_formed([
        (max(low, least), lower_end(high, most)) for low, high in one for least, most in other
    ])


def end_sum(one, other):
    """The end of the sums of two spans, by an end of each."""
    return (one[0] + other[0],) if one and other else ()


def spans_sum(one, other):
    """The spans in one form that have all sums of a number of the one and one of the other."""
    # A span without numbers has ends, too, but no sum comes of them.
    return spans_formed([
        (end_sum(low, least), end_sum(high, most)) for low, high in full(one) for least, most in full(other)
    ])


def below_nought(end):
    """An end with its number's sign turned about."""
    return (-end[0],) if end else ()


def spans_less(one, other):
    """The spans in one form that have all differences of a number of the one and one of the other."""
    return spans_sum(one, [(below_nought(high), below_nought(low)) for low, high in other])


def spans_apart(one, other):
    """A list of one number that the one has and the other has not, or [] where there is none."""
    # What the one alone has is all numbers, or ends somewhere: at an end of the one, or beside one of the other.
    tried = [0]
    for low, high in one:
        tried = tried + list(low) + list(high)
    for low, high in other:
        tried = tried + [number - 1 for number in low] + [number + 1 for number in high]
    for number in tried:
        if spans_have(one, number) and not spans_have(other, number):
            return [number]
    return []
