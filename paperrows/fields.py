"""Forms as single whole numbers, so that sums of forms are sums of numbers."""

from paperrows.kinds import furthest

# How great the weights of a paper may be, all together, where forms are put into numbers.
WEIGHT_BITS = 40


class TooGreat(Exception):
    """A paper with numbers for which the fields of the forms are too small."""


class Fields:
    """How forms are put into whole numbers: each of a form's numbers has a field of so many bits.

    The number of a form is its constant and each further number times a power of two, the greater the further it
    stands, so a form is added and taken so often as its number is. As long as no number of a form needs all the
    bits of its field, two forms never have the same number, and just a constant has one that fits the first field.
    """

    def __init__(self, form_bits, length):
        self.bits = form_bits + WEIGHT_BITS + 2
        self.half = 1 << (self.bits - 1)
        self.mask = (1 << self.bits) - 1
        self.shifts = [self.bits * at for at in range(length)]
        self.units = [1 << shift for shift in self.shifts]
        # A half in each field, so that no field is below 0.
        self.lift = self.half * sum(self.units)
        self.most_weight = 1 << WEIGHT_BITS
        self.most_number = 1 << (form_bits - 1)

    def packed(self, form):
        """Tell the number of a form."""
        return sum([number * unit for number, unit in zip(form, self.units)])

    def unpacked(self, number, length):
        """Tell the form, of this length, that has a number."""
        lifted, mask, half = number + self.lift, self.mask, self.half
        return tuple([((lifted >> shift) & mask) - half for shift in self.shifts[:length]])

    def places_used(self, numbers):
        """Tell the places, that of the constant first, at which some form, of these with their numbers, has no 0."""
        lift, mask, used = self.lift, self.mask, 0
        for number in numbers:
            # A field that is 0 holds just the half, once lifted.
            used |= (number + lift) ^ lift
        return [0] + [at for at, shift in enumerate(self.shifts) if at > 0 and (used >> shift) & mask != 0]

    def numbers_at(self, number, places):
        """Tell the numbers at some places of the form that has a number."""
        lifted, mask, half, bits = number + self.lift, self.mask, self.half, self.bits
        return tuple([((lifted >> bits * place) & mask) - half for place in places])

    def left(self, k, goal, weights, hints):
        """Tell to what a goal comes, k times, less all hints, so often; None where that is no constant alone."""
        if k + sum(weights) >= self.most_weight:
            raise TooGreat("weights")
        told = k * goal - sum([weight * hint for weight, hint in zip(weights, hints)])
        return told if -self.half < told < self.half else None

    def further(self, form):
        """Tell a split's form, and its contrary."""
        if furthest(form) >= self.most_number:
            raise TooGreat("a split")
        told = self.packed(form)
        return told, -1 - told

    def parted(self, unlike):
        """Tell the two forms of which one holds where an unlike isn't 0: above it, and below it."""
        return unlike - 1, -1 - unlike


def bits_of(number):
    """Tell the bits of forms with numbers up to this one, signs aside, and of what comes beside them."""
    return number.bit_length() + 2
