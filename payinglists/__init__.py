"""Programs over lists that pay: read, looked through and run."""
