"""Integers, as the document means them, and the decimal numbers that are written for them."""

# Python itself does not write or read a number of more than 4300 digits, so a long one is cut in pieces.
PIECE_DIGITS = 64
PIECE = 10 ** 64


def is_integer(value):
    """Return True for an integer; True and False are none here."""
    return isinstance(value, int) and not isinstance(value, bool)


def decimal(number):
    """Return the decimal number of an integer of any length, with `-` in front if it is below 0."""
    if number < 0:
        return "-" + decimal(-number)
    if number < PIECE:
        return str(number)
    # Halves of about the same length are divided faster than a long number is by a short one, again and again.
    powers = []
    power = PIECE
    while power <= number:
        powers.append(power)
        power = power * power
    pieces = [number]
    for divisor in powers[::-1]:
        pieces = [half for piece in pieces for half in divmod(piece, divisor)]
    return "".join([str(piece).zfill(PIECE_DIGITS) for piece in pieces]).lstrip("0")


def from_decimal(digits):
    """Return the integer of at least 0 that one or more decimal digits stand for, however many they are."""
    pieces = [int(digits[max(0, end - PIECE_DIGITS):end]) for end in range(len(digits), 0, -PIECE_DIGITS)]
    power = PIECE
    while len(pieces) > 1:
        pieces = [low + power * high for low, high in zip(pieces[::2], pieces[1::2] + [0])]
        power = power * power
    return pieces[0]
