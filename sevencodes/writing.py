"""Writing a list of numbers in each of the seven codes."""

from sevencodes.measures import LAST_CODE, PART_LENGTH, RUN_LENGTH, power_of_two, stretches_of, width_of


def write_short(number):
    """Give the bytes of a whole number, 0 or greater, written short."""
    out = []
    rest = number
    while rest >= 128:
        out.append(128 + rest % 128)
        rest = rest // 128
    out.append(rest)
    return out


def write_signed(number):
    """Give the bytes of a whole number written signed."""
    if number >= 0:
        return write_short(2 * number)
    return write_short(-2 * number - 1)


def write_block(numbers, width):
    """Give the block of the numbers, each of them below 2 to the width."""
    out = []
    span = power_of_two(width)
    held = 0
    # What the next digit is worth: the digits below it are held, not yet a whole byte.
    worth = 1
    for number in numbers:
        held = held + number * worth
        worth = worth * span
        while worth >= 256:
            out.append(held % 256)
            held = held // 256
            worth = worth // 256
    if worth > 1:
        out.append(held)
    return out


def offsets_of(numbers):
    """Give how much each number is above the least of them."""
    least = min(numbers)
    return [number - least for number in numbers]


def write_head(numbers):
    """Give the head of the numbers."""
    return write_signed(min(numbers)) + [width_of(offsets_of(numbers))]


def write_pack(numbers):
    """Give the pack of the numbers."""
    offsets = offsets_of(numbers)
    return write_head(numbers) + write_block(offsets, width_of(offsets))


def steps_of(numbers):
    """Give how much each number but the first is above the one before."""
    return [numbers[place] - numbers[place - 1] for place in range(1, len(numbers))]


def write_plain(numbers):
    """Code 0."""
    out = []
    for number in numbers:
        out.extend(write_signed(number))
    return out


def write_runs(numbers):
    """Code 1."""
    out = []
    for number, count in stretches_of(numbers):
        out.extend(write_short(count))
        out.extend(write_signed(number))
    return out


def write_bunch(offsets, width):
    """Give a bunch of code 3, which is no bytes where nothing stands between two runs."""
    if len(offsets) == 0:
        return []
    return write_short(2 * len(offsets) + 1) + write_block(offsets, width)


def write_mixed(numbers):
    """Code 3."""
    out = write_head(numbers)
    offsets = offsets_of(numbers)
    width = width_of(offsets)
    bunch = []
    for offset, count in stretches_of(offsets):
        if count < RUN_LENGTH:
            bunch.extend([offset] * count)
        else:
            out.extend(write_bunch(bunch, width))
            bunch = []
            out.extend(write_short(2 * count))
            out.extend(write_block([offset], width))
    out.extend(write_bunch(bunch, width))
    return out


def write_steps(numbers):
    """Code 4."""
    out = write_signed(numbers[0])
    for step in steps_of(numbers):
        out.extend(write_signed(step))
    return out


def write_step_blocks(numbers):
    """Code 5."""
    out = write_signed(numbers[0])
    steps = steps_of(numbers)
    for start in range(0, len(steps), PART_LENGTH):
        out.extend(write_pack(steps[start:start + PART_LENGTH]))
    return out


def write_entries(numbers):
    """Code 6."""
    entries = sorted(set(numbers))
    out = write_short(len(entries)) + write_signed(entries[0])
    for step in steps_of(entries):
        out.extend(write_short(step - 1))
    place_of = {}
    for place, entry in enumerate(entries):
        place_of[entry] = place
    places = [place_of[number] for number in numbers]
    return out + write_block(places, width_of([len(entries) - 1]))


def write_list(code, numbers):
    """Give the bytes of the numbers in the code, which is from 0 to 6."""
    if len(numbers) == 0:
        return []
    if code == 0:
        return write_plain(numbers)
    if code == 1:
        return write_runs(numbers)
    if code == 2:
        return write_pack(numbers)
    if code == 3:
        return write_mixed(numbers)
    if code == 4:
        return write_steps(numbers)
    if code == 5:
        return write_step_blocks(numbers)
    return write_entries(numbers)


def sizes_of(numbers):
    """Give how many bytes the numbers have in each code, from code 0 on."""
    return [len(write_list(code, numbers)) for code in range(LAST_CODE + 1)]


def best_of(lengths):
    """Give the code that has the fewest bytes of these, from code 0 on; the first of several."""
    return lengths.index(min(lengths))
