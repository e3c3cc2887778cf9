"""Two servers that lend addresses as partners."""
