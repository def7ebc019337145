"""What an integer and a row are, for the files that ask for them."""

MOST_REQUESTS = 60


def is_integer(thing):
    """Tell whether any value is an integer."""
    # Python takes a bool for an int, the document does not.
    return isinstance(thing, int) and not isinstance(thing, bool)


def is_between(thing, least, greatest):
    """Tell whether any value is an integer from least to greatest."""
    return is_integer(thing) and least <= thing <= greatest


def is_row(thing):
    """Tell whether any value is a row."""
    if not isinstance(thing, tuple):
        return False
    # No part is below 0, so a part above the sum that is allowed is refused with the parts already.
    return all([is_between(part, 0, MOST_REQUESTS) for part in thing]) and sum(thing) <= MOST_REQUESTS
