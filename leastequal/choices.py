"""Tuples with one thing of each of some lists."""


def many_tuples(lists):
    """How many tuples there are."""
    many = 1
    for one in lists:
        many *= len(one)
    return many


def all_tuples(lists):
    """All tuples."""
    tuples = [()]
    for one in lists:
        tuples = [(*some, thing) for some in tuples for thing in one]
    return tuples
