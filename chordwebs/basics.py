"""What the other modules share: the bound on places, whole numbers, pairs."""

MOST_PLACES = 9


def is_number(thing):
    # Python counts True and False among the ints; here they are no numbers.
    return isinstance(thing, int) and not isinstance(thing, bool)


def pairs(many):
    found = []
    for one in range(many):
        for other in range(one + 1, many):
            found.append((one, other))
    return found
