"""The needs of registers of terms."""

from leastequal.spellings import called


def need_by(label, needs):
    """The need of a term with this label whose parts have these needs; a leaf has none."""
    if not needs:
        return 1
    if called(label) is not None:
        return max(needs)
    # Each part that is done holds a register while the next ones are worked out.
    return max([need + index for index, need in enumerate(sorted(needs, reverse=True))])
