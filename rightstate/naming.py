"""Names for states that have none of their own."""

LETTERS = "abcdefghijklmnopqrstuvwxyz"


def state_name(index):
    """The name of the state of this number: a to z, then aa, ab and so on."""
    if index < len(LETTERS):
        return LETTERS[index]
    first, second = divmod(index - len(LETTERS), len(LETTERS))
    return LETTERS[first] + LETTERS[second]
