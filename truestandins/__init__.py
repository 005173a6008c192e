"""Parts tested beside stand-ins, and what that says of the whole."""
