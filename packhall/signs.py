"""What a sign is: a whole number from 0 to the last one."""

LAST_SIGN = 255


def are_signs(numbers):
    return all([0 <= number <= LAST_SIGN for number in numbers])
