"""Sets of numbers from 0 on as integers: bit k is set where k is in the set."""


def mask_of(numbers):
    """The mask of some numbers."""
    mask = 0
    for number in numbers:
        mask |= 1 << number
    return mask


def numbers_in(mask):
    """The numbers in a mask, ascending."""
    found = []
    rest = mask
    while rest:
        lowest = rest & -rest
        found.append(lowest.bit_length() - 1)
        rest ^= lowest
    return found
