"""What is looked at in values that callers pass."""


def is_integer(value):
    """Whether a value is an integer; True and False are none."""
    return isinstance(value, int) and not isinstance(value, bool)


def is_within(value, least, most):
    """Whether a value is an integer from least to most, either of them None for no bound."""
    if not is_integer(value):
        return False
    return (least is None or value >= least) and (most is None or value <= most)


def is_list(value):
    """Whether a value is a list or a tuple."""
    return isinstance(value, (list, tuple))


def are_integers(value, least, most):
    """Whether a value is a list of integers from least to most."""
    return is_list(value) and all([is_within(one, least, most) for one in value])


def are_pairs(value):
    """Whether a value is a list of lists of two."""
    return is_list(value) and all([is_list(pair) and len(pair) == 2 for pair in value])


def pairs_of(value):
    """The pairs of a dict or a list of pairs; None if it is neither, or has a wrong key or one twice."""
    if isinstance(value, dict):
        pairs = tuple(value.items())
    elif are_pairs(value):
        pairs = tuple([(pair[0], pair[1]) for pair in value])
    else:
        return None
    keys = [pair[0] for pair in pairs]
    if not all([is_integer(key) or isinstance(key, str) for key in keys]):
        return None
    return pairs if first_twice(keys) is None else None


def first_twice(values):
    """The first of some integers, strings and tuples of such that equals one ahead of it, or None."""
    seen = {}
    for one in values:
        key = _in_tuples(one)
        if key in seen:
            return key
        seen[key] = True
    return None


def _in_tuples(value):
    """A key or a nest of keys with tuples in the place of lists."""
    if not is_list(value):
        return value
    return tuple([_in_tuples(part) for part in value])
