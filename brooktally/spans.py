"""Which windows have a time, and which pieces parted by gaps."""


def starts(time, size, step):
    # The first start is the least multiple of the step whose window isn't over yet.
    first = ((time - size) // step + 1) * step
    return list(range(first, time + 1, step))


def meets(start, end, time, most):
    last = end - most - 1
    return start - time <= most and time - last <= most
