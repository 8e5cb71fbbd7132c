"""Rounding to whole units."""


# twice the fraction and one more, halved: so a half goes up
def nearest(whole, parts):
    return (2 * whole + parts) // (2 * parts)


def shares(whole, weights):
    together = sum(weights)
    if together == 0:
        return [0 for weight in weights]
    parts = [whole * weight // together for weight in weights]
    remainders = [whole * weight % together for weight in weights]
    lacking = whole - sum(parts)
    # sorted keeps the order of equal ones, so of equal remainders the earlier comes first
    greatest_first = sorted(range(len(weights)), key=lambda k: -remainders[k])
    for k in greatest_first[:lacking]:
        parts[k] += 1
    return parts
