"""The longest way through a graph, within what's known of it."""
