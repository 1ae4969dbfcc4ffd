"""Primes, powers and divisors of integers."""

GREATEST_PRIME = 1999


def is_prime(value):
    """Tell whether a value is a prime number from 2 to 1999; True and False are no integers."""
    if type(value) is not int or not 2 <= value <= GREATEST_PRIME:
        return False
    return prime_divisors(value) == [value]


def prime_divisors(number):
    """Return the ascending list of the primes that divide a positive number."""
    primes = []
    divisor = 2
    while divisor * divisor <= number:
        if number % divisor == 0:
            primes.append(divisor)
            while number % divisor == 0:
                number = number // divisor
        divisor += 1
    return primes + [number] if number > 1 else primes


def greatest_power(prime, number):
    """Return the greatest power of a prime that divides a positive number."""
    # Repeated squares keep the divisions few where the number is very long.
    squares = [prime]
    while number % squares[-1] == 0:
        squares.append(squares[-1] * squares[-1])
    greatest = 1
    for square in reversed(squares):
        if number % square == 0:
            number = number // square
            greatest = greatest * square
    return greatest


def is_power(number, prime):
    """Tell whether a positive number is a power of a prime, 1 included."""
    return greatest_power(prime, number) == number


def raised(number, exponent):
    """Return a number to the power of an exponent that is not negative."""
    made = 1
    while exponent > 0:
        if exponent % 2 == 1:
            made = made * number
        number = number * number
        exponent = exponent // 2
    return made
