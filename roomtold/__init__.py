"""Room told in steps: trees that tell in rough classes how much room pages have."""
